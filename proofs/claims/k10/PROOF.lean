import PyProof.Rows.All
import Wide.All
import OpenK.AllK
import Wide.FinOn
import KE.KExcSuper
import HandS.ForExc
import HandS.ExcInit
import HandS.TryMany
import HandS.ExcField
import HandS.ExcIs
import HandS.ExcSuper
import HandS.ForMost
import HandS.ClsMeth
import HandS.Star
import HandS.IsInst
import HandS.TupAny
import HandS.TupMul
import HandS.Style
import HandS.Wide
import HandS.Codes
import KE.KOpsOwn
import KE.GoesNew
import KE.GoesMore
import HandS.Iter
import HandS.Walk
import KE.KOwnIter
import KE.KSuperObj
import KE.KTupSum
import KE.KRevSl
import HandS.HeadNt
import HandS.HeadHook3
import HandS.Head2
import HandS.EndBits
import HandS.CallLocal
import HandS.ExcOwn
import HandS.WordsExc
import HandS.Strs
import HandS.MakeKw
import HandS.Property
import HandS.MakeKwOnly
import HandS.SortKw
import KE.DataMinMax
import KE.GoesZip
import HandS.Zip
import PyProof.MeetsIn
import PyProof.Rows.Range3
import HandS.Sort
import PyProof.ListRange
import PySem.Challenge.RW_nightsoff_k10_covers_read
set_option Elab.async false
set_option linter.all false
set_option maxRecDepth 100000
set_option maxHeartbeats 4000000
/-! # Exceptions of the program: every class over NightsError whose __init__ says super().__init__(text) and then stores its parameters. -/
namespace NX
open PySem PySem.W PySem.Calls PyProof.Rows PySem.HandSPX

/-- the stores behind super().__init__: field and parameter -/
inductive Sto : List Stmt → List (Str × Str) → Prop
  | nil : Sto [] []
  | cons {f x : Str} {p1 p2 p3 p4 : Pos} {r : List Stmt} {l : List (Str × Str)} (h : Sto r l) : Sto (.Assign [.Attribute (.Name "self" p1) f p2] (.Name x p3) p4 :: r) ((f, x) :: l)

/-- an exception that is made: its fields, the newest first -/
def Half (h : Heap) (C e : Addr) (d : Option Addr) (fs : List (Str × Value)) : Prop :=
  ∃ t : Addr, h.get? e = some { cls := .ref C, dict := d, data := .fields #[.ref t, .none, .none, .none, .bool false, .none] } ∧
    match d with
    | none => fs = []
    | some dx => dx ≠ e ∧ ∃ m, h.Ns1 dx m ∧ ∀ f, m f = fs.lookup f

structure ClsX (K : Frag) (C : Addr) : Prop where
  cls : ∃ nm q N bs bm sn sub ab col dd k0 k1 k2 k3 k5, K.lookup C = some (excClassObj nm q C N bs bm true sn sub ab col dd k0 k1 k2 k3 k5 "ValueError.__new__") ∧ refsVE bm = true ∧ alongIn K "__init__" bm = some (some (.builtin "ValueError.__init__"))
  sa : findIn K (.ref C) "__setattr__" = some (some (.builtin "object.__setattr__"))
  ve : subIn K (.ref C) (.type "ValueError") = some true

theorem lookup_cons (f g : Str) (y : Value) (fs : List (Str × Value)) : ((f, y) :: fs).lookup g = if g = f then some y else fs.lookup g := by
  by_cases h : g = f
  · subst h
    simp [List.lookup]
  · have e : (g == f) = false := by simpa using h
    rw [if_neg h]
    simp [List.lookup, e]
theorem lookup_mem_keys : ∀ {l : List (Str × Value)} {x : Str} {v : Value}, l.lookup x = some v → x ∈ l.map (·.1)
  | [], _, _, h => by cases h
  | (f, y) :: r, x, v, h => by
    rw [lookup_cons] at h
    by_cases e : x = f
    · rw [e]
      exact List.mem_cons_self ..
    · rw [if_neg e] at h
      exact List.mem_cons_of_mem _ (lookup_mem_keys h)
theorem within_map {fs : List (Str × Value)} {m : Str → Option Value} (r : ∀ f, m f = fs.lookup f) : Within m (fs.map (·.1)) := fun y hy => by
  rw [r y] at hy
  clear r
  induction fs with
  | nil => exact absurd rfl hy
  | cons p l ih =>
    obtain ⟨f, z⟩ := p
    rw [lookup_cons] at hy
    by_cases e : y = f
    · rw [e]
      exact List.mem_cons_self ..
    · rw [if_neg e] at hy
      exact List.mem_cons_of_mem _ (ih hy)

section
variable {prog : Program} {w : World} {A : Around} {E : Value → Shared → Prop} {K : Frag} {C e L : Addr}
/-- one store -/
theorem put_field (T : ClsX K C) {h : Heap} {g : Array GenState} {dr : Drawn} {tk : Nat} {os : OsState} {d : Option Addr} {fs : List (Str × Value)} {f : Str} {v : Value} {Q : Unit → Shared → Prop} (X : K.In h) (I : Half h C e d fs) (hl : fs.length ≤ 900)
    (hno : findIn K (.ref C) f = some none)
    (hq : ∀ h' tk' d', Half h' C e (some d') ((f, v) :: fs) → (∀ b o, b ≠ e → (∀ dx, d = some dx → b ≠ dx) → h.get? b = some o → h'.get? b = some o) → (∀ dx, d = some dx → d' = dx) → (d = none → h.objs.size ≤ d') → Q () ⟨h', g, dr, tk', os⟩) :
    wpAny (model prog w) A (setAttr (.ref e) f v) Q E ⟨h, g, dr, tk, os⟩ := by
  obtain ⟨nm, q, N, bs, bm, sn, sub, ab, col, dd, k0, k1, k2, k3, k5, hC, hbm, _⟩ := T.cls
  have hcl : clsIn K C = some { name := nm, bases := bs, mro := .ref C :: bm, ns := N, qualname := q, hasDict := true, slotNames := sn, subclasses := sub, abstract := ab, collection := col, hasDel := false } := by unfold clsIn; rw [hC] <;> rfl
  obtain ⟨t, ho, hd⟩ := I
  cases d with
  | none =>
    have hfs : fs = [] := hd
    subst hfs
    refine set_plain X (ox := { cls := .ref C, dict := none, data := .fields #[.ref t, .none, .none, .none, .bool false, .none] }) (od := none) ⟨ho, rfl, rfl, trivial⟩ T.sa ?_
    refine exc_osa X ho hcl (show refsVE (.ref C :: bm) = true from hbm) rfl hno (fun h' tk' dx k dn dne hx hn => ?_)
    refine hq h' tk' dx ⟨t, hx, dne, _, hn, fun y => ?_⟩ (fun b o hb _ z => k b o hb z) (fun _ z => nomatch z) fun _ => dn
    rw [lookup_cons]
    rfl
  | some dx =>
    obtain ⟨dne, m, hns, rel⟩ := hd
    have hw := within_map rel
    obtain ⟨oD, _, _, hoD, _, _⟩ := hns.count hw
    refine set_plain X (ox := { cls := .ref C, dict := some dx, data := .fields #[.ref t, .none, .none, .none, .bool false, .none] }) (od := some oD) ⟨ho, rfl, rfl, hoD⟩ T.sa ?_
    refine PySem.OEX.osa_old X ho hns hw (by rw [List.length_map]; omega) hcl (show refsVE (.ref C :: bm) = true from hbm) rfl hno (fun h' tk' k hn => ?_)
    refine hq h' tk' dx ⟨t, k _ _ (Ne.symm dne) ho, dne, _, hn, fun y => ?_⟩ (fun b o _ hb z => k b o (hb dx rfl) z) (fun _ z => Option.some.inj z) fun z => nomatch z
    rw [lookup_cons, rel y]
/-- the stores, one after the other -/
theorem sto_run (T : ClsX K C) {env : Env} {m : Str → Option Value} (hLv : env.locals = L) (hk : env.scope.kind = .function) (hs : env.kindOf "self" = some .local) (hm : m "self" = some (.ref e)) :
    ∀ {r : List Stmt} {l : List (Str × Str)}, Sto r l → (∀ p ∈ l, env.kindOf p.2 = some .local ∧ (m p.2).isSome = true ∧ (p.2 == ("__debug__" : Str)) = false ∧ findIn K (.ref C) p.1 = some none) →
    ∀ {h : Heap} {g : Array GenState} {dr : Drawn} {tk : Nat} {os : OsState} {d : Option Addr} {fs : List (Str × Value)} {Q : Flow → Shared → Prop}, K.In h → K.lookup e = none → (∀ dx, d = some dx → K.lookup dx = none) → Half h C e d fs → L ≠ e → (∀ dx, d = some dx → L ≠ dx) → h.Ns L m → fs.length + l.length ≤ 900 →
      (∀ h' tk' d', Half h' C e d' ((l.map fun p => (p.1, (m p.2).getD .none)).reverse ++ fs) → (∀ b o, b ≠ e → (∀ dx, d = some dx → b ≠ dx) → h.get? b = some o → h'.get? b = some o) → (∀ dx, d = some dx → d' = some dx) →
        (d = none → ∀ dx, d' = some dx → h.objs.size ≤ dx) → Q .next ⟨h', g, dr, tk', os⟩) →
      wpAny (model prog w) A (execs r env) Q E ⟨h, g, dr, tk, os⟩ := by
  intro r l S
  induction S with
  | nil =>
    intro _ h g dr tk os d fs Q _ _ _ I _ _ _ _ hq
    exact wpAny_execs_nil (hq h tk d I (fun _ _ _ _ z => z) (fun _ z => z) fun z dx y => by rw [z] at y; cases y)
  | @cons f x p1 p2 p3 p4 r l hS ih =>
    intro hp h g dr tk os d fs Q X he hde I hLe hLd hn hl hq
    obtain ⟨q1, q2, q3, q4⟩ := hp (f, x) (List.mem_cons_self ..)
    obtain ⟨v, hv⟩ := Option.isSome_iff_exists.mp q2
    subst hLv
    refine wpAny_execs_cons (plainObj_wpAny_Assign_Attribute ?_)
    refine PySem.ESX.ldL (v := v) hn hv (PySem.ESX.ldL (v := .ref e) hn hm ?_ hk hs) hk q1 q3
    refine put_field T X I (by simp only [List.length_cons] at hl; omega) q4 fun h' tk' d' I' k' kd kn => ?_
    have nb : ∀ b o, K.lookup b = some o → b ≠ e ∧ ∀ dx, d = some dx → b ≠ dx := fun b o z => ⟨fun y => (by rw [y, he] at z; cases z), fun dx y w => (by rw [w, hde dx y] at z; cases z)⟩
    have X' : K.In h' := fun b o z => k' b o (nb b o z).1 (nb b o z).2 (X b o z)
    have hLn : env.locals < h.objs.size := hn.lt
    have hLd' : env.locals ≠ d' := by
      cases d with
      | none => exact Nat.ne_of_lt (Nat.lt_of_lt_of_le hLn (kn rfl))
      | some dx => rw [kd dx rfl]; exact hLd dx rfl
    have hn' : h'.Ns env.locals m := by
      obtain ⟨oL, es, ep, hL, rr⟩ := hn
      exact ⟨oL, es, ep, k' _ _ hLe hLd hL, rr⟩
    have he' : K.lookup d' = none := by
      cases d with
      | none =>
        cases z : K.lookup d' with
        | none => rfl
        | some o => exact absurd (Nat.lt_of_lt_of_le (Heap.lt_size (X _ _ z)) (kn rfl)) (Nat.lt_irrefl _)
      | some dx => rw [kd dx rfl]; exact hde dx rfl
    refine ih (fun p hp' => hp p (List.mem_cons_of_mem _ hp')) X' he (fun dx z => by cases z; exact he') I' hLe (fun dx z => by cases z; exact hLd') hn' (by simp only [List.length_cons] at hl ⊢; omega) fun h2 tk2 d2 I2 k2 kd2 _ => ?_
    have ed2 : d2 = some d' := kd2 d' rfl
    refine hq h2 tk2 d2 ?_ (fun b o hb hd z => k2 b o hb (fun dx y => ?_) (k' b o hb hd z)) (fun dx z => ?_) fun z dx y => ?_
    · rw [List.map_cons, List.reverse_cons, List.append_assoc]
      rw [hv]
      exact I2
    · cases y
      cases d with
      | none => exact Nat.ne_of_lt (Nat.lt_of_lt_of_le (Heap.lt_size z) (kn rfl))
      | some dx => rw [kd dx rfl]; exact hd dx rfl
    · rw [ed2, kd dx z]
    · rw [ed2] at y
      cases y
      exact kn z
end

/-- the statement super().__init__(text) -/
def supS (msg : Str) (k : Nat) (q1 q2 q3 q4 q5 q6 : Pos) : Stmt := .Expr (.Call (.Attribute (.Call (.Name "super" q1) [] [] q2) "__init__" q3) [.Constant (.str msg) k q4] [] q5) q6
structure InitX (prog : Program) (K : Frag) (C fI : Addr) (qual : Str) (params : Arguments) (scope : Scope) (body : List Stmt) (ar : Arg) (l : List (Str × Str)) : Prop where
  txt : ∃ msg k q1 q2 q3 q4 q5 q6 r, body = supS msg k q1 q2 q3 q4 q5 q6 :: r ∧ Sto r l ∧ (∀ env : Env, env.scope = scope → interactive env = false) ∧
    ∀ env : Env, env.scope = scope → ∃ pl : Sem Bool, eval (.Call (.Attribute (.Call (.Name "super" q1) [] [] q2) "__init__" q3) [.Constant (.str msg) k q4] [] q5) env = (do
      let ov ← attributeBase (.Call (.Name "super" q1) [] [] q2) "__init__" env (eval (.Call (.Name "super" q1) [] [] q2) env)
      standAt q3.atName
      let (f, first) ← holding [ov] (getMethod ov "__init__" pl)
      callWith q5 f first (backTo q5 (starEach [.Constant (.str msg) k q4] env)) [])
  iC : findIn K (.ref C) "__init__" = some (some (.ref fI))
  tC : typeIn K (.ref fI) = some (.type "function")
  fn : ∃ (oc : Value) (od : Option Addr) (kV doc pm : Value) (an : Option Addr) (cda : Addr) (ct : Value) (osl : Array (Option Value)) (cc : Addr) (cl : Value) (cld : Option Addr) (csl : Array (Option Value)) (ccl : Value) (cdd : Option Addr) (vs : Array Value) (ccs : Array (Option Value)) (file : Str) (tf : Tok),
    K.lookup fI = some ⟨oc, od, .func (ksFn "__init__" qual params body scope .none kV doc pm an (.ref cda) ct cc), osl⟩ ∧ codeIn K (.ref cda) qual = true ∧
    K.lookup cc = some ⟨cl, cld, .cell (some (.ref C)), csl⟩ ∧ K.lookup cda = some ⟨ccl, cdd, .fields vs, ccs⟩ ∧ vs[2]? = some (.str file tf) ∧ ((prog.main.file : Str) == file) = true
  par : (params.posonlyargs ++ params.args).head? = some ar
  arN : ar.arg = "self"
  sup : scope.names.lookup ("super" : Str) = some .globalImplicit
  cls : scope.names.lookup ("__class__" : Str) = some .free
  slf : scope.names.lookup ("self" : Str) = some .local
  loc : ∀ p ∈ l, scope.names.lookup p.2 = some .local ∧ (p.2 == ("__debug__" : Str)) = false ∧ findIn K (.ref C) p.1 = some none
  cell : ∀ x ∈ scope.names, x.2 ≠ .cell
  kind : scope.kind = .function
  co : scope.isCoroutine = false
  gen : scope.isGenerator = false
  top : (prog.main.scope.names.lookup ("super" : Str)).isSome = false
  few : l.length ≤ 900

/-- what stands behind the making of an exception -/
structure Made (h h' : Heap) (C e : Addr) (d : Option Addr) (fs : List (Str × Value)) : Prop where
  keep : ∀ b o, h.get? b = some o → h'.get? b = some o
  new : h.objs.size ≤ e
  obj : Half h' C e d fs
  dct : ∀ dx, d = some dx → h.objs.size ≤ dx

/-- a bound wrapper called with one written text -/
theorem mw_call {M : Model} {A : Around} {E : Value → Shared → Prop} {s : Shared} {u x : Addr} {i : String} {pos : Pos} {env : Env} {msg : Str} {kk : Nat} {q4 : Pos} {Q : Value → Shared → Prop} (hu : s.heap.get? u = some (kxs_mw i x))
    (h : ∀ t, wpAny M A (call (.ref u) [.str msg t]) Q E { s with toks := s.toks + 1 }) :
    wpAny M A (callWith pos (.ref u) [] (backTo pos (starEach [.Constant (.str msg) kk q4] env)) []) Q E s := by
  have he : starEach [.Constant (.str msg) kk q4] env = (false, eval (.Constant (.str msg) kk q4) env) :: starEach [] env := by rfl
  have hpl : (backTo pos (starEach [] env)).any (·.1) = false := by rfl
  rw [he]
  refine kxs_callWith (i := i) (x := x) (by show (false || (backTo pos (starEach [] env)).any (·.1)) = false; rw [hpl]; rfl) (evalArgs_plain ?_)
  show wpAny M A (spliced (backTo pos (starEach [.Constant (.str msg) kk q4] env))) _ E s
  exact spliced_more (Calls.Constant_str (spliced_none ⟨hu, h _⟩))

section
variable {prog : Program} {w : World} {A : Around} {R : Result → Shared → Prop} {K : Frag} {C fI : Addr} {qual : Str} {params : Arguments} {scope : Scope} {body : List Stmt} {ar : Arg} {l : List (Str × Str)} {mg mb : Str → Option Value}
theorem exn_made (T : ClsX K C) (I : InitX prog K C fI qual params scope body ar l) {s : Shared} {us : List Value} {binds : List (Str × Value)} (X : K.In s.heap) (hlim : s.heap.NoLimit) (hG : s.heap.Ns mainGlobals mg) (hB : s.heap.Ns builtinsNs mb) (hsup : mg "super" = none) (hmb : mb "super" = some (.type "super"))
    (ho : nsIn K cStatics "thirdparty.any" = some none)
    (hroom : A.depth + 1 < recursionLimit) (hlen : us.length ≤ sizeLine)
    (hbind : ∀ (s' : Shared) (e : Addr) (fd : FuncData), fd.params = params → fd.scope = scope → fd.defaults = .none → BindsTo s' fd ⟨.ref e :: us, []⟩ (("self", .ref e) :: binds))
    (hin : ∀ p ∈ l, (binds.lookup p.2).isSome = true) (hbl : ∀ y ∈ binds, scope.names.lookup y.1 = some .local) (hnd : (binds.map (·.1)).Nodup ∧ ("self" : Str) ∉ binds.map (·.1))
    (hq : ∀ h' tk e d, Made s.heap h' C e d (l.map fun p => (p.1, (binds.lookup p.2).getD .none)).reverse → R (.ok (.ret (.ref e))) { s with heap := h', toks := tk }) :
    codeAny (model prog w) A (.call (.ref C) ⟨us, []⟩) R s := by
  obtain ⟨nm, q, N, bs, bm, sn, sub, ab, col, dd, k0, k1, k2, k3, k5, hC, hbm, hal⟩ := T.cls
  obtain ⟨msg, kk, q1, q2, q3, q4, q5, q6, r, eb, hS, hint, hev⟩ := I.txt
  obtain ⟨oc, od, kV, doc, pm, an, cda, ct, osl, cc, cl, cld, csl, ccl, cdd, vs, ccs, file, tf, hfn, hcd, hcell, hcda, hvs, hfile⟩ := I.fn
  have hcl : clsIn K C = some { name := nm, bases := bs, mro := .ref C :: bm, ns := N, qualname := q, hasDict := true, slotNames := sn, subclasses := sub, abstract := ab, collection := col, hasDel := false } := by unfold clsIn; rw [hC] <;> rfl
  obtain ⟨hp, g, dr, tk, os⟩ := s
  have k : ∀ b o, hp.get? b = some o → ((hp.push (kdv_tup us)).push (excO C hp.objs.size)).get? b = some o := fun b o e => Heap.get?_push_of_some _ (Heap.get?_push_of_some _ e)
  have hget : ((hp.push (kdv_tup us)).push (excO C hp.objs.size)).get? (hp.objs.size + 1) = some (excO C hp.objs.size) := by heap_get
  have hnx : K.lookup (hp.objs.size + 1) = none := by
    cases e : K.lookup (hp.objs.size + 1) with
    | none => rfl
    | some o =>
      have z : hp.get? (hp.objs.size + 1) = some o := X _ _ e
      exact absurd (Nat.lt_of_succ_lt (Heap.lt_size z)) (Nat.lt_irrefl _)
  refine call_own F.excBase_ValueError (fun X => refsVE_contains X bm hbm) (X _ _ hC) (looks_findIn X I.iC) (fun self => bind_fn X self I.tC) hlen ?_
  refine ks_codeAny_call_defAt (binds := ("self", .ref (hp.objs.size + 1)) :: binds) (body := body) (show A.depth + 1 < recursionLimit from hroom) (k _ _ (X _ _ hfn)) rfl (hlim.keeps k) (codeRec_of (X.keeps k) hcd) rfl (hbind _ _ _ rfl rfl rfl) I.cell ?_ (fun h₀ hns hk₀ => ?_) I.co I.gen I.kind
  · intro x hx
    rcases List.mem_cons.mp hx with rfl | hx
    · exact I.slf
    · exact hbl x hx
  · subst eb
    let env : Env := callEnv (ksFn "__init__" qual params (supS msg kk q1 q2 q3 q4 q5 q6 :: r) scope .none kV doc pm an (.ref cda) ct cc) ((hp.push (kdv_tup us)).push (excO C hp.objs.size)).objs.size fI
    have k₀ : ∀ b o, hp.get? b = some o → h₀.get? b = some o := fun b o z => hk₀ b o (k b o z)
    have X₀ : K.In h₀ := X.keeps k₀
    have hx₀ := hk₀ _ _ hget
    obtain ⟨pl, hpl⟩ := hev env rfl
    refine ks_wpAt_execs_cons (ks_wpAt_Expr_any (ks_wpAt_MethodCall (pl := pl) ?_ hpl) (hint env rfl))
    refine ks_wpAt_super_base (f := fI) (cc := cda) I.sup I.cls (by decide) rfl (X₀ _ _ hfn) rfl I.par rfl (X₀ _ _ hcda) rfl hvs hfile I.top ?_
    refine ks_loadName_global I.kind I.sup (loadGlobal_builtin (hG.keeps k₀) hsup (hB.keeps k₀) hmb ⟨rfl, ?_⟩)
    refine wpAny_loadName_free I.kind I.cls rfl ⟨_, X₀ _ _ hcell, rfl⟩ ?_
    refine wpAny_loadName_local I.kind (show env.kindOf ar.arg = some .local by rw [I.arN]; exact I.slf) hns (v := .ref (hp.objs.size + 1)) (by rw [I.arN, lookup_reverse_of_nodup _ (by rw [List.map_cons]; exact List.nodup_cons.mpr ⟨hnd.2, hnd.1⟩)]; simp [List.lookup]) ?_
    refine ks_wpAny_isType_cls (X₀ _ _ hC) rfl ⟨rfl, ?_⟩
    refine ks_wpAny_call_super (X₀ _ _ hC) rfl hx₀ rfl (fun c z => nomatch z) (looks_mroIn X₀ ?_) (fun h1 e1 k1 => ?_)
    · unfold mroIn
      rw [hcl, Option.bind_some, if_neg (show ¬ (List.isEmpty (Value.ref C :: bm) = true) from Bool.false_ne_true)]
      simp
    · have X₁ : K.In h1 := X₀.keeps k1
      have hx₁ := k1 _ _ hx₀
      have Ity : Looks (model prog w) h1 (typeOf (.ref (hp.objs.size + 1))) (.ref C) := (show InstAt h1 (hp.objs.size + 1) (excO C hp.objs.size) C none from ⟨hx₁, rfl, rfl, trivial⟩).type
      have hxC : hp.objs.size + 1 ≠ C := fun z => by
        have y := X _ _ hC
        rw [← z] at y
        exact absurd (Nat.lt_of_succ_lt (Heap.lt_size y)) (Nat.lt_irrefl _)
      refine kxs_getMethod kxs_ValueError e1 (looks_opaque X₁ ho) ((looks_clsIn X₁ hcl).andThen .now) (l := bm) (by simp [List.dropWhile_cons]) X₁ hal (Ity.andThen (looks_subIn X₁ T.ve)) hxC (by decide) ?_
      refine mw_call (u := h1.objs.size) (x := hp.objs.size + 1) (Heap.get?_push_at rfl rfl) fun t => ?_
      have hw : (h1.push (kxs_mw "ValueError.__init__" (hp.objs.size + 1))).get? h1.objs.size = some (kxs_mw "ValueError.__init__" (hp.objs.size + 1)) := Heap.get?_push_at rfl rfl
      have k2 : ∀ b o, h1.get? b = some o → (h1.push (kxs_mw "ValueError.__init__" (hp.objs.size + 1))).get? b = some o := fun b o z => Heap.get?_push_of_some _ z
      have X₂ : K.In _ := X₁.keeps k2
      refine wpAny_call (codeAny_of_tree ?_)
      show wpAny _ _ (callAny (.ref h1.objs.size) ⟨[.str msg t], []⟩) _ _ _
      simp only [callAny]
      refine wpAny_bind (wpAny_load hw ?_)
      simp only [kxs_mw, show (Value.type "method-wrapper" == Value.type "method" || Value.type "method-wrapper" == Value.type "builtin_function_or_method" || Value.type "method-wrapper" == Value.type "method-wrapper") = true by decide, if_true]
      refine KFB.if_so (by decide) ?_
      refine wpAny_bind (check_bound_init F.excBase_ValueError.toExcCallFacts (X₂ _ _ hC) (k2 _ _ hx₁) rfl ?_)
      refine wpAny_bind (wpAny_pure (wpAny_pure ?_))
      refine ⟨plainId_quiet F.excBase_ValueError.init.plain _, codeAny_builtin F.excBase_ValueError.initEntry ?_⟩
      refine exc_init_tree (cls := .ref C) (t0 := hp.objs.size) (dv := none) (c2 := .none) (c3 := .none) (b4 := .bool false) (k2 _ _ hx₁) (by show 1 ≤ sizeLine; decide) fun h3 k3 e3 _ => ?_
      have kk3 : ∀ b o, b ≠ hp.objs.size + 1 → h₀.get? b = some o → h3.get? b = some o := fun b o hb z => k3 b o hb (k2 b o (k1 b o z))
      have notE : ∀ b o, hp.get? b = some o → b ≠ hp.objs.size + 1 := fun b o z => Nat.ne_of_lt (Nat.lt_of_lt_of_le (Heap.lt_size z) (Nat.le_succ _))
      have k4 : ∀ b o, hp.get? b = some o → h3.get? b = some o := fun b o z => kk3 b o (notE b o z) (k₀ b o z)
      have hL : env.locals ≠ hp.objs.size + 1 := by
        show ((hp.push (kdv_tup us)).push (excO C hp.objs.size)).objs.size ≠ hp.objs.size + 1
        rw [Heap.size_push, Heap.size_push]
        omega
      have hn3 : h3.Ns env.locals fun x => List.lookup x ((("self" : Str), Value.ref (hp.objs.size + 1)) :: binds).reverse := by
        obtain ⟨oL, es, ep, hoL, rr⟩ := hns
        exact ⟨oL, es, ep, kk3 _ _ hL hoL, rr⟩
      have nd : (((("self" : Str), Value.ref (hp.objs.size + 1)) :: binds).map (·.1)).Nodup := by
        rw [List.map_cons]
        exact List.nodup_cons.mpr ⟨hnd.2, hnd.1⟩
      have lk : ∀ x : Str, x ≠ "self" → List.lookup x ((("self" : Str), Value.ref (hp.objs.size + 1)) :: binds).reverse = binds.lookup x := fun x hx => by
        rw [lookup_reverse_of_nodup _ nd, lookup_cons, if_neg hx]
      have pne : ∀ p ∈ l, p.2 ≠ ("self" : Str) := fun p hp' e => by
        have q := hin p hp'
        rw [e] at q
        obtain ⟨v, hv⟩ := Option.isSome_iff_exists.mp q
        have : ("self" : Str) ∈ binds.map (·.1) := by
          exact lookup_mem_keys hv
        exact hnd.2 this
      refine wpAt_of_wpAny (sto_run T (env := env) (d := none) rfl I.kind I.slf (by rw [lookup_reverse_of_nodup _ nd, lookup_cons, if_pos rfl]) hS (fun p hp' => ?_) (X.keeps k4) hnx (fun _ z => nomatch z) ⟨_, e3, rfl⟩ hL (fun _ z => nomatch z) hn3 (by have := I.few; simpa using this) fun h4 tk4 d4 I4 k5 _ kn => ?_)
      · obtain ⟨a1, a2, a3⟩ := I.loc p hp'
        exact ⟨a1, by rw [lk _ (pne p hp')]; exact hin p hp', a2, a3⟩
      · refine ⟨rfl, hq h4 tk4 _ d4 ⟨fun b o z => k5 b o (notE b o z) (fun _ y => nomatch y) (k4 b o z), Nat.le_succ _, ?_, fun dx y => ?_⟩⟩
        · have e5 : (l.map fun p => (p.1, (List.lookup p.2 ((("self" : Str), Value.ref (hp.objs.size + 1)) :: binds).reverse).getD Value.none)) = l.map fun p => (p.1, (binds.lookup p.2).getD Value.none) :=
            List.map_congr_left fun p hp' => by rw [lk _ (pne p hp')]
          rw [e5, List.append_nil] at I4
          exact I4
        · have b : hp.objs.size ≤ h3.objs.size := Nat.le_trans (Nat.le_succ _) (Nat.le_of_lt (Heap.lt_size e3))
          exact Nat.le_trans b (kn rfl dx y)
end
end NX

set_option maxRecDepth 100000
set_option maxHeartbeats 4000000
/-! # Raising them, over the layer -/
namespace L2
open PySem PySem.Spec PyProof.Rows

/-- a class of the program's errors: its parameters ps, what it stores (field, parameter) -/
structure Exn (prog : Program) (K : PySem.W.Frag) (mg : Str → Option Value) (x : Str) (C fI : Addr) (ps : List Str) (l : List (Str × Str)) : Prop where
  cls : NX.ClsX K C
  ini : ∃ qual params scope body ar, NX.InitX prog K C fI qual params scope body ar l ∧ (∀ (s' : Shared) (e : Addr) (fd : FuncData) (us : List Value), us.length = ps.length → fd.params = params → fd.scope = scope → fd.defaults = .none → BindsTo s' fd ⟨.ref e :: us, []⟩ (("self", .ref e) :: ps.zip us)) ∧
    ∀ p ∈ ps, scope.names.lookup p = some .local
  loc : ∀ p ∈ l, p.2 ∈ ps
  nod : ps.Nodup ∧ ("self" : Str) ∉ ps
  gC : mg x = some (.ref C)
  sup : mg "super" = none
  any : PySem.W.nsIn K cStatics "thirdparty.any" = some none
  kC : PySem.W.keepIn K (.ref C) = true
  exC : PySem.W.subIn K (.ref C) (.type "BaseException") = some true
  tyC : PySem.W.typeIn K (.ref C) = some (.type "type")

/-- the fields of an error made with vs -/
def fieldsX (ps : List Str) (l : List (Str × Str)) (vs : List V) : List (Str × V) := (l.map fun p => (p.1, ((ps.zip vs).lookup p.2).getD .non)).reverse

theorem look_zip : ∀ {ps : List Str} {vs : List V} {us : List Value} {x : Str}, Vals vs us → RelO ((ps.zip vs).lookup x) ((ps.zip us).lookup x)
  | [], _, _, _, _ => by simp [RelO]
  | _ :: _, [], _, _, .nil => by simp [RelO]
  | p :: ps, v :: vs, _, x, .cons (b := u) r t => by
    rw [List.zip_cons_cons, List.zip_cons_cons]
    by_cases e : x = p
    · subst e
      simpa [List.lookup, RelO] using r
    · have q : (x == p) = false := by simpa using e
      simp only [List.lookup, q]
      exact look_zip t
theorem look_some : ∀ {ps : List Str} {us : List Value} {x : Str}, x ∈ ps → us.length = ps.length → ((ps.zip us).lookup x).isSome = true
  | [], _, _, h, _ => by cases h
  | p :: ps, [], _, _, h => by cases h
  | p :: ps, u :: us, x, h, hl => by
    rw [List.zip_cons_cons, NX.lookup_cons]
    by_cases e : x = p
    · rw [if_pos e]
      rfl
    · rw [if_neg e]
      exact look_some ((List.mem_cons.mp h).resolve_left e) (by simpa using hl)
theorem map_fst_zip : ∀ {ps : List Str} {us : List Value}, us.length = ps.length → (ps.zip us).map (·.1) = ps
  | [], _, _ => rfl
  | p :: ps, [], h => by cases h
  | p :: ps, u :: us, h => by
    rw [List.zip_cons_cons, List.map_cons, map_fst_zip (by simpa using h)]
theorem relO_fields {ps : List Str} {vs : List V} {us : List Value} (r : Vals vs us) (hl : us.length = ps.length) : ∀ {l : List (Str × Str)}, (∀ p ∈ l, p.2 ∈ ps) → ∀ f, RelO ((fieldsX ps l vs).lookup f) (((l.map fun p => (p.1, ((ps.zip us).lookup p.2).getD Value.none)).reverse).lookup f) := by
  intro l hp f
  have key : ∀ {l : List (Str × Str)}, (∀ p ∈ l, p.2 ∈ ps) → RelO ((l.map fun p => (p.1, ((ps.zip vs).lookup p.2).getD V.non)).lookup f) ((l.map fun p => (p.1, ((ps.zip us).lookup p.2).getD Value.none)).lookup f) := by
    intro l
    induction l with
    | nil => intro _; simp [RelO]
    | cons p r' ih =>
      intro hp
      rw [List.map_cons, List.map_cons]
      by_cases e : f = p.1
      · have q : (f == p.1) = true := by simpa using e
        simp only [List.lookup, q]
        have z := look_zip (ps := ps) (x := p.2) r
        obtain ⟨u, hu⟩ := Option.isSome_iff_exists.mp (look_some (us := us) (hp p (List.mem_cons_self ..)) hl)
        rw [hu] at z ⊢
        cases y : List.lookup p.2 (ps.zip vs) with
        | none => rw [y] at z; exact z.elim
        | some v => rw [y] at z; exact z
      · have q : (f == p.1) = false := by simpa using e
        simp only [List.lookup, q]
        exact ih fun p' h' => hp p' (List.mem_cons_of_mem _ h')
  unfold fieldsX
  rw [← List.map_reverse, ← List.map_reverse]
  exact key fun p h => hp p (List.mem_reverse.mp h)

/-- X(e, ..) -/
def tMkX (C : Addr) (ps : List Str) (l : List (Str × Str)) (ta : TA) : St → Hp → XK → Prop := fun σ H Q => ta σ H fun vs H1 => vs.length = ps.length ∧ ∀ d, H1 d = none → Q (.ref C) (some d) (upd H1 d (.xd (fieldsX ps l vs)))
section
variable {X : Cx} {C fI : Addr} {x : Str} {ps : List Str} {l : List (Str × Str)}
theorem mk_made (T : Exn X.prog X.K X.mg x C fI ps l) (hl0 : l ≠ []) {k : Nat} (hr : Room k X.A) {pins : List (Addr × Obj)} {σ : St} {H1 : Hp} {Q : XK} {s1 : Shared} {vs : List V} {us : List Value} (I1 : Inv X pins σ H1 s1) (r1 : Vals vs us) (hlen : vs.length = ps.length) (hps : ps.length ≤ 900)
    (q1 : ∀ d, H1 d = none → Q (.ref C) (some d) (upd H1 d (.xd (fieldsX ps l vs)))) : wpAny (model X.prog X.w) X.A (call (.ref C) us) (MkP X pins σ Q) X.xe s1 := by
  obtain ⟨qual, params, scope, body, ar, hI, hb, hloc⟩ := T.ini
  have hus : us.length = ps.length := by rw [← r1.length]; exact hlen
  obtain ⟨hG, mb, hB, hbb⟩ : s1.heap.Ns mainGlobals X.mg ∧ ∃ mb : Str → Option Value, s1.heap.Ns builtinsNs mb ∧ ∀ x : Str, x ≠ "__name__" → mb x = bootBuiltins x := by
    obtain ⟨_, h1, ⟨mb, h2, h3⟩, _⟩ := I1.mod
    exact ⟨h1.keeps I1.bk, mb, h2.keeps I1.bk, h3⟩
  refine wpAny_call (NX.exn_made (binds := ps.zip us) T.cls hI I1.kIn I1.nolimit hG hB T.sup ((hbb _ (by decide)).trans (by decide +kernel)) T.any (by have := hr.dp; omega) (by rw [hus]; exact Nat.le_trans hps (by decide)) (fun s' e fd h1 h2 h3 => hb s' e fd us hus h1 h2 h3)
    (fun p hp => look_some (T.loc p hp) hus) (fun y hy => hloc _ (by rw [← map_fst_zip hus]; exact List.mem_map_of_mem hy)) (by rw [map_fst_zip hus]; exact T.nod) fun h' tk' e d M => ?_)
  obtain ⟨hp, g, dr, tk, os⟩ := s1
  obtain ⟨t0, hoe, hdd⟩ := M.obj
  cases d with
  | none => exact absurd (by simpa using hdd) hl0
  | some d =>
    obtain ⟨dne, m, hns, hm⟩ := hdd
    show MkP X pins σ Q (.ref e) ⟨h', g, dr, tk', os⟩
    obtain ⟨G', g1, g2⟩ := restrict h' fun b => decide (b ≠ e)
    have gk : ∀ b, b ≠ e → G'.get? b = h'.get? b := fun b hb => g1 b (decide_eq_true hb)
    have ge : G'.get? e = none := g2 e (by simp)
    have old : ∀ b o, hp.get? b = some o → G'.get? b = some o := fun b o q => (gk b (Nat.ne_of_lt (Nat.lt_of_lt_of_le (Heap.lt_size q) M.new))).trans (M.keep b o q)
    have dbig : hp.objs.size ≤ d := M.dct d rfl
    have ob : ObjOk X.prog X.w (upd H1 d (.xd (fieldsX ps l vs))) G' d (.xd (fieldsX ps l vs)) :=
      ⟨m, hns.at (fun o q => (gk d dne).trans q), fun f => by rw [hm f]; exact relO_fields r1 hus T.loc f⟩
    have J : Inv X pins σ (upd H1 d (.xd (fieldsX ps l vs))) ⟨G', g, dr, tk', os⟩ := I1.laid (t' := tk') old dbig ob
    refine ⟨e, _, _, ⟨G', g, dr, tk', os⟩, _, .ref C, some d, rfl, J, fun b o q => ?_, ge, hoe, ⟨rfl, rfl⟩, rfl, rfl, ?_, rfl, I1.bare, raises_own T.exC T.tyC, q1 d (I1.hok.fresh dbig)⟩
    · by_cases hb : b = e
      · have q' : G'.get? b = some o := q
        rw [hb, ge] at q'; cases q'
      · exact (gk b hb).symm.trans q
    · rw [upd_ne (Ne.symm dne)]
      exact I1.hok.fresh M.new
variable {e : Expr} {es : List Expr} {ta : TA} {p pos pos2 : Pos} {W : WX} {k : Nat}
theorem pmk_x (T : Exn X.prog X.K X.mg x C fI ps l) (hl0 : l ≠ []) (hps : ps.length ≤ 900) (hr : Room k X.A) (hg : Gl X x) (ha : PA X (e :: es) ta) (hdb : (x == ("__debug__" : Str)) = false := by decide)
    (he : starEach (e :: es) X.env = (false, eval e X.env) :: starEach es X.env := by rfl) (hpl : (backTo pos (starEach es X.env)).any (·.1) = false := by rfl) :
    PMk X (.Call (.Name x p) (e :: es) [] pos) (tMkX C ps l ta) := by
  intro pins s σ H Q I h
  refine wpAny_Call_Name_kw (ld_glob I hg T.gC ?_ hdb)
  refine PySem.W.callWith_K (h₀ := X.base) I.ok.mod.kin T.kC (thn (ha.run pos pins s σ H _ I h) fun us s1 hh => ?_) he hpl
  obtain ⟨vs, H1, I1, r1, hlen, q1⟩ := hh
  exact ⟨I1.kIn, mk_made T hl0 hr I1 r1 hlen hps q1⟩
/-- raise X(e, ..) -/
def tRaiseX (C : Addr) (ps : List Str) (l : List (Str × Str)) (W : WX) (ta : TA) : TS := fun _ σ H => tMkX C ps l ta σ H fun cls d H' => W cls d σ H'
theorem ps_raiseX (hc : X.calm = true) (T : Exn X.prog X.K X.mg x C fI ps l) (hl0 : l ≠ []) (hps : ps.length ≤ 900) (hr : Room k X.A) (tk : Takes X W) (hg : Gl X x) (ha : PA X (e :: es) ta) (hdb : (x == ("__debug__" : Str)) = false := by decide)
    (he : starEach (e :: es) X.env = (false, eval e X.env) :: starEach es X.env := by rfl) (hpl : (backTo pos (starEach es X.env)).any (·.1) = false := by rfl) :
    PS X (.Raise (some (.Call (.Name x p) (e :: es) [] pos)) none pos2) (tRaiseX C ps l W ta) := ps_raise hc tk (pmk_x T hl0 hps hr hg ha hdb he hpl)
end
end L2

set_option maxRecDepth 100000
set_option maxHeartbeats 4000000
/-! # Further rules over the layer -/
namespace L2
open PySem PySem.Spec PyProof.Rows
/-- x is True, x is False -/
def rIsTF : R2 := fun x y H Q => ∃ b : Bool, y = .bl b ∧ Q (.bl (decide (x = .bl b))) H
theorem op_isTF {X : Cx} : OpR X (compareOp .Is) rIsTF := by
  intro pins s σ H x y v u Q I rx ry h
  obtain ⟨b, rfl, q⟩ := h
  cases ry
  cases x with
  | non => cases rx; exact wpAny_pure (fin_bl I q (by simp))
  | bl c => cases rx; exact wpAny_pure (fin_bl I q (by cases b <;> cases c <;> rfl))
  | int i => obtain ⟨t, rfl⟩ := rx; exact wpAny_pure (fin_bl I q (by simp))
  | str i => obtain ⟨t, rfl⟩ := rx; exact wpAny_pure (fin_bl I q (by simp))
  | byt i => obtain ⟨t, rfl⟩ := rx; exact wpAny_pure (fin_bl I q (by simp))
  | flt i => obtain ⟨t, rfl⟩ := rx; exact wpAny_pure (fin_bl I q (by simp))
  | ref a => cases rx; exact wpAny_pure (fin_bl I q (by simp))
  | ty n => cases rx; exact wpAny_pure (fin_bl I q (by simp))

/-! ### operators that an own class defines -/
/-- what a class says of its own method for the operator op (forward) -/
structure OwnOp (K : PySem.W.Frag) (C : Addr) (op : Operator) (f : Addr) : Prop where
  first : PySem.W.selfFirst K C = true
  at_ : PySem.W.findIn K (.ref C) (PySem.dunder op.info.2) = some (some (.ref f))
  fn : PySem.W.isFn K (.ref f) = true
/-- .. against a value of the built-in class T -/
structure OwnOpT (K : PySem.W.Frag) (C : Addr) (op : Operator) (f : Addr) (T : String) : Prop extends OwnOp K C op f where
  rev : ∃ rc, PySem.W.findIn K (.ref C) (dunderR op.info.2) = some rc ∧ (rc = none ∨ ∃ g : Addr, rc = some (.ref g))
  tf : ∃ fo, PySem.W.findIn K (.type T) (PySem.dunder op.info.2) = some fo
  tr : ∃ ro, PySem.W.findIn K (.type T) (dunderR op.info.2) = some ro
  sub : PySem.W.subIn K (.type T) (.ref C) = some false
theorem inst_of {P : Program} {w : World} {H : Hp} {h : Heap} {a C dx : Addr} {fs : List (Str × V)} (hok : HOk P w H h) (ha : H a = some (.ins C dx fs)) : ∃ od, PySem.W.InstAt h a (PySem.W.instObj C dx) C (some od) := by
  obtain ⟨mA, J, _⟩ := ins_get hok ha
  obtain ⟨od, J, _⟩ := J.look
  exact ⟨od, J⟩
theorem back_of {X : Cx} {pins : List (Addr × Obj)} {σ : St} {Q : VK} {v : Value} {s' : Shared} (h : EP X pins σ Q v s') : PySem.W.CmpBack (fun v s' => EP X pins σ Q v s') v s' := by
  obtain ⟨x, H, I, r, q⟩ := id h
  cases v <;> first
    | exact h
    | (cases x <;> first | (obtain ⟨t, z⟩ := r; cases z; done) | (cases r; done))
/-- a op b, b of the same class -/
def rOwnOp (C : Addr) (sp : Sp) (E : XK) : R2 := fun x y H Q => ∃ a dx fs b dy gs, x = .ref a ∧ y = .ref b ∧ H a = some (.ins C dx fs) ∧ H b = some (.ins C dy gs) ∧ sp [.ref a, .ref b] H Q E
theorem op_own {X : Cx} {CX : CXT} {op : Operator} {C f : Addr} {fd : FuncData} {ps : List Str} {sp : Sp} {E : XK} {k : Nat} (O : OwnOp X.K C op f) (F : FnOk X.prog X.w X.K X.mg X.base CX k f fd ps sp) (hb : Binds X.K fd ps []) (hr : Room k X.A) (hx : Passes CX X E) :
    OpR X (binaryOp op) (rOwnOp C sp E) := by
  intro pins s σ H x y v u Q I rx ry h
  obtain ⟨a, dx, fs, b, dy, gs, rfl, rfl, ha, hb', hsp⟩ := h
  cases rx
  cases ry
  obtain ⟨od, J⟩ := inst_of I.hok ha
  obtain ⟨od', J'⟩ := inst_of I.hok hb'
  obtain ⟨m, hF⟩ := I.fr
  refine PySem.W.binop_K hF I.ok.mod.kin J J'.type O.first O.at_ O.fn (wpAny_mono (run_fn F hr hb .nil hx I (us := [.ref a, .ref b]) (vs := [.ref a, .ref b]) (.cons rfl (.cons rfl .nil)) hsp) (fun r s' q => back_of q) fun _ _ z => z)
/-- a op n, n a number -/
def rOwnOpI (C : Addr) (sp : Sp) (E : XK) : R2 := fun x y H Q => ∃ a dx fs n, x = .ref a ∧ y = .int n ∧ H a = some (.ins C dx fs) ∧ sp [.ref a, .int n] H Q E
theorem op_ownI {X : Cx} {CX : CXT} {op : Operator} {C f : Addr} {fd : FuncData} {ps : List Str} {sp : Sp} {E : XK} {k : Nat} (O : OwnOpT X.K C op f "int") (F : FnOk X.prog X.w X.K X.mg X.base CX k f fd ps sp) (hb : Binds X.K fd ps []) (hr : Room k X.A) (hx : Passes CX X E) :
    OpR X (binaryOp op) (rOwnOpI C sp E) := by
  intro pins s σ H x y v u Q I rx ry h
  obtain ⟨a, dx, fs, n, rfl, rfl, ha, hsp⟩ := h
  cases rx
  obtain ⟨t, rfl⟩ := ry
  obtain ⟨od, J⟩ := inst_of I.hok ha
  obtain ⟨m, hF⟩ := I.fr
  obtain ⟨rc, h1, h2⟩ := O.rev
  obtain ⟨fo, h3⟩ := O.tf
  obtain ⟨ro, h4⟩ := O.tr
  refine PySem.W.ksp_binT (T := "int") hF I.ok.mod.kin J rfl O.first O.at_ O.fn h1 h2 h3 h4 O.sub (wpAny_mono (run_fn F hr hb .nil hx I (us := [.ref a, .int n t]) (vs := [.ref a, .int n]) (.cons rfl (.cons ⟨t, rfl⟩ .nil)) hsp) (fun r s' q => back_of q) fun _ _ z => z)

/-- -a -/
def rOwnNeg (C : Addr) (sp : Sp) (E : XK) : V → Hp → VK → Prop := fun x H Q => ∃ a dx fs, x = .ref a ∧ H a = some (.ins C dx fs) ∧ sp [.ref a] H Q E
theorem un_own {X : Cx} {CX : CXT} {C f : Addr} {fd : FuncData} {ps : List Str} {sp : Sp} {E : XK} {k : Nat} (hs : PySem.W.findIn X.K (.ref C) "__neg__" = some (some (.ref f))) (hf : PySem.W.isFn X.K (.ref f) = true) (F : FnOk X.prog X.w X.K X.mg X.base CX k f fd ps sp) (hb : Binds X.K fd ps []) (hr : Room k X.A) (hx : Passes CX X E) :
    UnR X (unaryOp .USub) (rOwnNeg C sp E) := by
  intro pins s σ H x v Q I rx h
  obtain ⟨a, dx, fs, rfl, ha, hsp⟩ := h
  cases rx
  obtain ⟨od, J⟩ := inst_of I.hok ha
  obtain ⟨m, hF⟩ := I.fr
  exact PySem.W.ksp_neg hF I.ok.mod.kin J hs hf (run_fn F hr hb .nil hx I (us := [.ref a]) (vs := [.ref a]) (.cons rfl .nil) hsp)
end L2

set_option maxRecDepth 100000
set_option maxHeartbeats 4000000
/-! # enumerate(x), x a list or a tuple -/
namespace EN
open PySem PySem.Builtin
set_option maxHeartbeats 1000000 in
theorem meets1 {v : Value} {o : Obj} {H : Heap → Prop} (B : Begins v o H) :
    Meets (Builtin.«enumerate.__new__» ⟨[.type "enumerate", v], []⟩) (fun _ R s => H s.heap ∧
      R (.ok (.ret (.ref (s.heap.push o).objs.size))) { s with heap := (s.heap.push o).push { cls := .type "enumerate", data := .fields #[.none, .bool false, .ref s.heap.objs.size, rawInt 0, .none, .none] } }) :=
  .of_wp fun prog w A R s h => by
    obtain ⟨hp, g, d, tk, os⟩ := s; obtain ⟨h1, h⟩ := h
    have hsub := sub_enumerate
    have q1 : ∀ {A' : Around} {E : Value → Shared → Prop} {Q : Value → Shared → Prop}, Q (.ref hp.objs.size) ⟨hp.push o, g, d, tk, os⟩ → wpAny (model prog w) A' (pyIter v) Q E ⟨hp, g, d, tk, os⟩ :=
      fun q => B.iter prog w _ _ ⟨hp, g, d, tk, os⟩ _ h1 q
    wp_walk using q1
    refine wpAny_stack_any fun st => wpAny_pure ?_
    split
    · rename_i c _ _ _ _ _
      cases (c == Value.type "enumerate")
      · wp_walk using q1
        exact ⟨_, rfl, h⟩
      · wp_walk using q1
        exact ⟨_, rfl, h⟩
    · wp_walk using q1
      exact ⟨_, rfl, h⟩
section
variable {prog : Program} {w : World} {A : Around} {E : Value → Shared → Prop} {s : Shared}
theorem begins1 {v : Value} {o : Obj} {H : Heap → Prop} {Q : Value → Shared → Prop} (B : Begins v o H) (h1 : H s.heap)
    (h : ∀ h', IsEnum h' (s.heap.objs.size + 1) s.heap.objs.size 0 .none → h'.get? s.heap.objs.size = some o → h'.objs.size = s.heap.objs.size + 2 →
      (∀ b o, s.heap.get? b = some o → h'.get? b = some o) → Q (.ref (s.heap.objs.size + 1)) { s with heap := h' })
    (ht : checkTypeCall "enumerate" ⟨[v], []⟩ = pure ()) (hn : checkBuiltinCall "enumerate.__new__" ⟨[.type "enumerate", v], []⟩ = pure ()) (ha : ∀ obj, argsOk "object.__init__" ⟨[obj, v], []⟩) :
    wpAny (model prog w) A (call (.type "enumerate") [v]) Q E s := by
  refine callType_new F.called_enumerate (by decide) ht hn ha F.entry_enumerate_new (meets1 B) ⟨h1, ?_⟩
  have hz : (s.heap.push o).objs.size = s.heap.objs.size + 1 := Heap.size_push ..
  show _ ∧ _
  rw [hz]
  have he : IsEnum ((s.heap.push o).push { cls := .type "enumerate", data := .fields #[.none, .bool false, .ref s.heap.objs.size, rawInt 0, .none, .none] }) (s.heap.objs.size + 1) s.heap.objs.size 0 .none := by
    have := Heap.get?_push_size (s.heap.push o) (o := { cls := .type "enumerate", data := .fields #[.none, .bool false, .ref s.heap.objs.size, rawInt 0, .none, .none] }) rfl
    rw [hz] at this; exact this
  refine ⟨⟨_, he, rfl⟩, h _ he (Heap.get?_push_of_some _ (Heap.get?_push_size _ B.free)) (by rw [Heap.size_push, hz]) fun b o x => Heap.get?_push_of_some _ (Heap.get?_push_of_some _ x)⟩
end
end EN

namespace L2
open PySem PySem.Spec PyProof.Rows
/-- enumerate over the tuple at a, from k on -/
def IteT (K : PySem.W.Frag) (k : Int) (a : Addr) : It :=
  ⟨fun i H => ∃ (xs : List V) (x : V), SqT K H a xs ∧ xs[i]? = some x, fun i H v H' => ∃ T x, v = .ref T ∧ H T = none ∧ H' = upd H T (.tup [.int (k + (i : Int)), x]) ∧ ∀ xs, SqT K H a xs → xs[i]? = some x, fun i H => ∃ xs : List V, SqT K H a xs ∧ xs.length = i⟩
theorem turn_enumT {P : Program} {w : World} {K : PySem.W.Frag} {elts : List Expr} {kk : Nat} {tpos : Pos} (k : Int) (a e it : Addr) (hei : e ≠ it) :
    Turn P w K (.Tuple elts kk tpos) (IteT K k a) [e, it] e (fun i h => (∃ old, IsEnum h e it (k + ((i : Nat) : Int)) old) ∧ h.IsTupleIter it a i) where
  mem := by simp
  obj := fun i h st b hb => by
    obtain ⟨⟨old, he⟩, ⟨o, ho, hc, hd⟩⟩ := st
    have e' : b = e ∨ b = it := by simpa using hb
    rcases e' with z | z
    · rw [z]; exact ⟨_, he, fun v q => nomatch q⟩
    · rw [z]; exact ⟨o, ho, fun v q => by rw [hd] at q; cases q⟩
  keep := fun i h h' st k => let ⟨⟨old, he⟩, hi⟩ := st; ⟨⟨old, k e (by simp) _ he⟩, hi.at fun o q => k it (by simp) o q⟩
  item := by
    intro X hP hw hK hc i pins s σ H E I hf st hg
    subst hP hw hK
    obtain ⟨⟨old, he⟩, hit⟩ := st
    obtain ⟨xs, x, hq, hx⟩ := hg
    obtain ⟨its, rv, p, hz⟩ := I.tuple hq
    obtain ⟨u, hu, ru⟩ := rv.get hx
    have hel : e < s.heap.objs.size := Heap.lt_size he
    have hil : it < s.heap.objs.size := by obtain ⟨_, q, _⟩ := hit; exact Heap.lt_size q
    have hae : e ≠ a := fun z => by
      obtain ⟨o, ho, hcls, _⟩ := p
      rw [← z, he] at ho
      cases ho
      exact absurd (show Value.type "enumerate" = Value.type "tuple" from hcls) (by decide)
    have hai : a ≠ it := fun z => by
      obtain ⟨o, ho, hcls, _⟩ := p
      obtain ⟨o2, ho2, hc2, _⟩ := hit
      rw [z, ho2] at ho
      cases ho
      rw [hc2] at hcls
      exact absurd hcls (by decide)
    have W := GoesN.enumFrom (prog := X.prog) (w := X.w) (A := X.A) (elts := elts) (x1 := kk) (pos := tpos) k (Draws.tuple (prog := X.prog) (w := X.w) (A := X.A.in1) (I.ok.hd hc) it a hai its.toArray) e hei (by simp [hei, hae]) (by simp)
    have hi : i < its.toArray.size := by
      have := (List.getElem?_eq_some_iff.mp hu).1
      simpa using this
    refine wpAny_mono (W.goes i s _ E hi ⟨⟨old, he⟩, hit, p⟩ fun v h' tk hY st' hk htk => ?_) (fun r s1 hr => hr) fun _ _ z => z
    obtain ⟨T, t, y, rfl, hT, hPy, hTup⟩ := hY
    have ey : y = u := by
      have hu' : its.toArray[i]? = some u := by simpa using hu
      rw [hu'] at hPy
      exact (Option.some.inj hPy).symm
    subst ey
    obtain ⟨⟨old2, he2⟩, hit2, _⟩ := st'
    have new : ObjOk X.prog X.w (upd H T (.tup [.int (k + (i : Int)), x])) h' T (.tup [.int (k + (i : Int)), x]) :=
      ⟨by show 2 ≤ sizeLine; decide, [.int (k + (i : Int)) t, y], .cons ⟨_, rfl⟩ (.cons ru .nil), hTup⟩
    have I1 : Inv X pins σ (upd H T (.tup [.int (k + (i : Int)), x])) { s with heap := h', toks := tk } :=
      I.turnedNew (ch := [e, it]) (fun b ob hb q => hk b ob hb q) hf hT new
    refine ⟨.ref T, _, I1, rfl, ⟨_, x, rfl, I.hok.fresh hT, rfl, fun ys hy => by rw [I.tuple_inj hy hq]; exact hx⟩, ⟨⟨old2, he2⟩, hit2⟩, fun b hb => ?_⟩
    have hb' : b < s.heap.objs.size := by
      have e' : b = e ∨ b = it := by simpa using hb
      rcases e' with z | z
      · rw [z]; exact hel
      · rw [z]; exact hil
    rw [upd_ne (Nat.ne_of_lt (Nat.lt_of_lt_of_le hb' hT))]
    exact (hf b hb).1
  done := by
    intro X hP hw hK hc i pins s σ H E I hf st hg
    subst hP hw hK
    obtain ⟨⟨old, he⟩, hit⟩ := st
    obtain ⟨xs, hq, hx⟩ := hg
    obtain ⟨its, rv, p, hz⟩ := I.tuple hq
    have hai : a ≠ it := fun z => by
      obtain ⟨o, ho, hcls, _⟩ := p
      obtain ⟨o2, ho2, hc2, _⟩ := hit
      rw [z, ho2] at ho
      cases ho
      rw [hc2] at hcls
      exact absurd hcls (by decide)
    have hae : e ≠ a := fun z => by
      obtain ⟨o, ho, hcls, _⟩ := p
      rw [← z, he] at ho
      cases ho
      exact absurd (show Value.type "enumerate" = Value.type "tuple" from hcls) (by decide)
    have W := GoesN.enumFrom (prog := X.prog) (w := X.w) (A := X.A) (elts := elts) (x1 := kk) (pos := tpos) k (Draws.tuple (prog := X.prog) (w := X.w) (A := X.A.in1) (I.ok.hd hc) it a hai its.toArray) e hei (by simp [hei, hae]) (by simp)
    have hl := rv.length
    have hn : its.toArray.size = i := by
      rw [List.size_toArray, ← hl, hx]
    refine wpAny_mono (W.stops s (fun s1 => Inv X pins σ H s1) E (by rw [hn]; exact ⟨⟨old, he⟩, hit, p⟩) fun h' tk hk htk => I.turnedL (t' := tk) (ch := [e, it]) (fun b o hb q => hk b o hb q) hf) (fun r s1 hr => hr) fun _ _ z => z
  self := fun A i s Q E st h => let ⟨⟨_, he⟩, _⟩ := st; wpAny_pyIter_enum he h

theorem walk_enumT {K : PySem.W.Frag} {k : Int} {a : Addr} {xs : List V} : Walk (IteT K k a) xs.length (fun H => SqT K H a xs) (YPair (fun i => some (.int (k + (i : Nat)))) (fun i => xs[i]?)) where
  goes := fun i H hi h => ⟨xs, xs[i], h, List.getElem?_eq_getElem hi⟩
  stops := fun H h => ⟨xs, h, rfl⟩
  yields := fun i H v H' hi h y => by
    obtain ⟨T, x, rfl, hT, rfl, hx⟩ := y
    exact ⟨T, .int (k + (i : Nat)), x, rfl, hT, rfl, rfl, hx xs h⟩
/-- enumerate(x), x a list or a tuple -/
def iEnumA (K : PySem.W.Frag) (ta : TA) : TI := fun σ H R => ta σ H fun vs H1 => ∃ a xs, vs = [.ref a] ∧ ((SqL K H1 a xs ∧ R (Ite K a) H1) ∨ (SqT K H1 a xs ∧ R (IteT K 0 a) H1))
theorem pi_enumA {X : Cx} {e : Expr} {ta : TA} {p pos tpos : Pos} {elts : List Expr} {kk : Nat} (hg : Gl X "enumerate") (hm : X.mg "enumerate" = none) (ha : PA X [e] ta) (hs : starEach [e] X.env = [(false, eval e X.env)] := by rfl) :
    PI X (.Tuple elts kk tpos) (.Call (.Name "enumerate" p) [e] [] pos) (iEnumA X.K ta) := by
  refine ⟨fun pins s σ H R I h => ?_⟩
  refine Call_ (ld_blt I hg hm boot_enumerate (PyProof.Rows.callWith_type1 (thn (ha.run pos pins s σ H _ I h) fun us s1 ⟨vs, H1, I1, r1, q1⟩ => ?_) hs rfl))
  obtain ⟨a, xs, ex, q1⟩ := q1
  subst ex
  cases r1 with
  | cons r rr =>
    cases rr
    cases r
    have fresh2 : ∀ b, b ∈ [s1.heap.objs.size + 1, s1.heap.objs.size] → FpOk X pins H1 b := fun b hb => by
      have e' : b = s1.heap.objs.size + 1 ∨ b = s1.heap.objs.size := by simpa using hb
      have hle : s1.heap.objs.size ≤ b := by
        rcases e' with z | z
        · rw [z]; exact Nat.le_add_right _ _
        · rw [z]; exact Nat.le_refl _
      exact I1.fpOk hle (I1.hok.fresh hle)
    rcases q1 with ⟨hq, q⟩ | ⟨hq, q⟩
    · obtain ⟨its, rv, p', hz⟩ := I1.list hq
      refine call_enumerate_list p'.isList fun h' he hit hsz hk => wpAny_pyIter_enum he ?_
      have I2 : Inv X pins σ H1 { s1 with heap := h' } := I1.kept (t' := s1.toks) hk
      exact ⟨s1.heap.objs.size + 1, [s1.heap.objs.size + 1, s1.heap.objs.size], _, _, H1, rfl, I2, turn_enum a (s1.heap.objs.size + 1) s1.heap.objs.size, ⟨⟨.none, he⟩, hit, Nat.succ_ne_self _⟩, fresh2, q⟩
    · obtain ⟨its, rv, p', hz⟩ := I1.tuple hq
      refine EN.begins1 (begins_tuple a its.toArray) p' (fun h' he hit hsz hk => wpAny_pyIter_enum he ?_) (F.typeCall_enumerate_1 _) (F.newCall_enumerate_1 _) (fun obj => F.args_object_init_2 obj _)
      have I2 : Inv X pins σ H1 { s1 with heap := h' } := I1.kept (t' := s1.toks) hk
      exact ⟨s1.heap.objs.size + 1, [s1.heap.objs.size + 1, s1.heap.objs.size], _, _, H1, rfl, I2, turn_enumT 0 a (s1.heap.objs.size + 1) s1.heap.objs.size (Nat.succ_ne_self _), ⟨⟨.none, he⟩, ⟨_, hit, rfl, rfl⟩⟩, fresh2, q⟩
end L2

set_option maxRecDepth 100000
set_option maxHeartbeats 4000000
/-! # for x in an instance whose __iter__ says: return iter(self.field), the field a tuple -/
namespace L2
open PySem PySem.Spec PyProof.Rows PySem.W
structure OwnIt (K : Frag) (mg : Str → Option Value) (C f : Addr) (fld : Str) : Prop where
  cls : Cls K C
  noA : NoAttr K C fld
  at_ : findIn K (.ref C) "__iter__" = some (some (.ref f))
  fn : isFn K (.ref f) = true
  free : mg "iter" = none
  txt : ∃ qual params scope p1 p2 p3 p4 p5, (∃ (oc : Value) (od : Option Addr) (kV doc pm : Value) (an : Option Addr) (cdv ct : Value) (osl : Array (Option Value)),
      K.lookup f = some ⟨oc, od, .func (fnOf "__iter__" qual params [.Return (some (.Call (.Name "iter" p1) [.Attribute (.Name "self" p2) fld p3] [] p4)) p5] scope .none kV doc pm an cdv ct), osl⟩ ∧ codeIn K cdv qual = true) ∧
    scope.names.lookup ("self" : Str) = some .local ∧ scope.names.lookup ("iter" : Str) = some .globalImplicit ∧ (∀ x ∈ scope.names, x.2 ≠ .cell) ∧ scope.kind = .function ∧ scope.isCoroutine = false ∧ scope.isGenerator = false ∧
    (∀ (s : Shared) (fd : FuncData) (v : Value), fd.params = params → fd.scope = scope → fd.defaults = .none → BindsTo s fd ⟨[v], []⟩ [("self", v)]) ∧
    ∀ env : Env, env.scope = scope → attributeBase (.Name "self" p2) fld env (eval (.Name "self" p2) env) = eval (.Name "self" p2) env
abbrev tupIt (t : Addr) : Obj := { cls := .type "tuple_iterator", data := .fields #[.ref t, .int 0 0] }
theorem call_iter_tup {prog : Program} {w : World} {A : Around} {E : Value → Shared → Prop} {s : Shared} {t : Addr} {items : Array Value} {Q : Value → Shared → Prop} (ht : s.heap.IsTuple t items) (h : Q (.ref s.heap.objs.size) { s with heap := s.heap.push (tupIt t) }) :
    wpAny (model prog w) A (call (.builtin "iter") [.ref t]) Q E s := by
  refine Calls.call_function_entry (by decide +kernel) (by decide +kernel) kdk_entry_iter (kdk_args_iter _) ?_
  unfold Builtin.«iter»
  refine wpAny_bind (m := someArgs "iter" 1 2 _) (wpAny_of_eq (a := [Value.ref t]) (by first | rfl | kernel_rfl!) ?_)
  show wpAny _ _ (pyIter (.ref t) >>= _) _ _ _
  refine wpAny_bind (wpAny_pyIter_tuple ht ?_)
  exact wpAny_pure ⟨_, rfl, h⟩
section
variable {X : Cx} {pins : List (Addr × Obj)} {σ : St} {H : Hp} {s : Shared} {a C dx f t : Addr} {fs : List (Str × V)} {fld : Str} {xs : List V} {k : Nat}
theorem own_iter (O : OwnIt X.K X.mg C f fld) (hr : Room k X.A) (I : Inv X pins σ H s) (ha : H a = some (.ins C dx fs)) (hv : fs.lookup fld = some (.ref t)) (hT : SqT X.K H t xs) {Q : Value → Shared → Prop}
    (hq : ∀ h' tk it, (∀ b o, s.heap.get? b = some o → h'.get? b = some o) → s.heap.objs.size ≤ it → h'.get? it = some (tupIt t) → Q (.ref it) { s with heap := h', toks := tk }) :
    wpAny (model X.prog X.w) X.A (pyIter (.ref a)) Q X.xe s := by
  obtain ⟨qual, params, scope, p1, p2, p3, p4, p5, ⟨oc, od, kV, doc, pm, an, cdv, ct, osl, hfn, hcd⟩, sc1, sc2, sc3, sc4, sc5, sc6, hb, hbase⟩ := O.txt
  obtain ⟨mA, J0, rel, _⟩ := ins_get I.hok ha
  obtain ⟨oda, J, _⟩ := J0.look
  obtain ⟨m, hF⟩ := I.fr
  obtain ⟨its, rv, hTup, _⟩ := I.tuple hT
  obtain ⟨u, hu, ru⟩ := RelO.some_of (v := V.ref t) (o := mA fld) (by rw [← hv]; exact rel fld)
  cases ru
  have hG : s.heap.Ns mainGlobals X.mg := I.mod.glob.keeps I.bk
  obtain ⟨mb, hB, hbb⟩ := I.mod.blt
  have X0 := I.kIn
  have hlim := I.nolimit
  obtain ⟨hp, g, dr, tk, os⟩ := s
  refine owit_iter hF I.ok.mod.kin J O.at_ O.fn (wpAny_call ?_)
  refine ks_codeAny_call_defAt (binds := [("self", .ref a)]) (by have := hr.dp; omega) (X0 _ _ hfn) rfl hlim (codeRec_of X0 hcd) rfl (hb _ _ _ rfl rfl rfl) sc3 (fun y hy => ?_) (fun h₀ hns hk₀ => ?_) sc5 sc6 sc4
  · have e : y = (("self" : Str), Value.ref a) := by simpa using hy
    rw [e]
    exact sc1
  · have X1 : X.K.In h₀ := X0.keeps hk₀
    have J1 : ObjM h₀ a dx C mA := ⟨hk₀ _ _ J0.obj, J0.ns.at fun o q => hk₀ _ o q, J0.ne⟩
    refine wpAt_of_wpAny (wpAny_execs_cons (wpAny_Return_some ?_))
    refine wpAny_Call_Name_kw (Calls.Name_function_global sc4 sc2 (Calls.loadGlobal_builtin (hG.keeps hk₀) O.free ((hB.keeps I.bk).keeps hk₀) ((hbb _ (by decide)).trans (by decide +kernel : bootBuiltins "iter" = some (.builtin "iter"))) ?_) (by decide))
    refine PyProof.Rows.callWith_builtin1 (spliced_more (attr_of (hbase _ rfl) (PySem.ESX.ldL (v := .ref a) hns (by simp [List.lookup]) ?_ sc4 sc1))) (by rfl) (by rfl)
    refine get_map X1 J1 (O.cls.get _) O.cls.hd O.noA hu rfl (spliced_none ?_)
    refine call_iter_tup (show h₀.IsTuple t its.toArray from let ⟨o, h1, h2⟩ := hTup; ⟨o, hk₀ _ o h1, h2⟩) ?_
    have hT1 : (⟨h₀.push (tupIt t), g, dr, tk + 1 + 1, os⟩ : Shared).TypeIs (.ref h₀.objs.size) "tuple_iterator" := ⟨_, Heap.get?_push_at rfl rfl, rfl⟩
    refine wpAny_specialOf (hT1) F.slot_tuple_iterator_next.lookup ?_
    exact hq _ _ _ (fun b o q => Heap.get?_push_of_some _ (hk₀ b o q)) (by
      have := hns.lt
      exact Nat.le_of_lt this) (Heap.get?_push_at rfl rfl)
end
end L2

set_option maxRecDepth 100000
set_option maxHeartbeats 4000000
/-! # Words for lists or tuples, heaps that only grow -/
namespace L2
open PySem PySem.Spec PyProof.Rows
/-- a list or a tuple -/
def SqA (K : PySem.W.Frag) (H : Hp) (a : Addr) (xs : List V) : Prop := SqL K H a xs ∨ SqT K H a xs
theorem Same.seqT {K : PySem.W.Frag} {H H' : Hp} {a : Addr} {xs : List V} (e : Same H H') (h : SqT K H a xs) : SqT K H' a xs := by
  rcases h with (h | ⟨o, h⟩) | h
  · exact .inl (.inl (e _ _ h))
  · exact .inl (.inr ⟨o, e _ _ h⟩)
  · exact .inr h
theorem Same.seqA {K : PySem.W.Frag} {H H' : Hp} {a : Addr} {xs : List V} (e : Same H H') (h : SqA K H a xs) : SqA K H' a xs := h.imp e.seq e.seqT
theorem Same.new {H : Hp} {p : Addr} {o : HO} (h : H p = none) : Same H (upd H p o) := fun b u e => by
  rw [upd_ne (fun z => by rw [z, h] at e; cases e)]
  exact e
theorem Same.new' {H H' : Hp} {p : Addr} {o : HO} (s : Same H H') (h : H' p = none) : Same H (upd H' p o) := s.trans (.new h)
theorem passX {X : Cx} {K : Value → Shared → Prop} {E₁ : Value → Shared → Prop} (hx : X.xe = fun e s' => wpAny (model X.prog X.w) X.A (leaving X.env e) (fun _ s'' => K e s'') E₁ s') : PassesOwn (model X.prog X.w) X.A X.env X.xe := passes_of hx
theorem map_get {α : Type} {f : α → V} {ns : List α} {i : Nat} {y : V} (e : (ns.map f)[i]? = some y) : ∃ n, ns[i]? = some n ∧ y = f n := by
  rw [List.getElem?_map] at e
  cases q : ns[i]? with
  | none => rw [q] at e; cases e
  | some n => rw [q] at e; exact ⟨n, rfl, (Option.some.inj e).symm⟩
theorem enumA_of {K : PySem.W.Frag} {H : Hp} {a : Addr} {xs : List V} {R : It → Hp → Prop} (h : SqA K H a xs) (hR : ∀ (J : It) (G : Hp → Prop), (∀ H', Same H H' → G H') → Walk J xs.length G (YPair (fun i => some (.int (i : Nat))) (fun i => xs[i]?)) → R J H) :
    (SqL K H a xs ∧ R (Ite K a) H) ∨ (SqT K H a xs ∧ R (IteT K 0 a) H) := by
  rcases h with h | h
  · exact .inl ⟨h, hR _ _ (fun _ s => s.seq h) walk_enum⟩
  · exact .inr ⟨h, hR _ _ (fun _ s => s.seqT h) ((walk_enumT (k := 0)).mono (fun _ h => h) fun i H x H' _ _ y => by
      obtain ⟨T', x', y', z⟩ := y
      exact ⟨T', x', y', by simpa using z⟩)⟩
/-- enumerate(x), x a list or a tuple, told by its Walk -/
def iEnumW (K : PySem.W.Frag) (ta : TA) : TI := fun σ H R => ta σ H fun vs H1 => ∃ a xs, vs = [.ref a] ∧ SqA K H1 a xs ∧ ∀ (J : It) (G : Hp → Prop), (∀ H', Same H1 H' → G H') → Walk J xs.length G (YPair (fun i => some (.int (i : Nat))) (fun i => xs[i]?)) → R J H1
theorem pi_enumW {X : Cx} {e : Expr} {ta : TA} {p pos tpos : Pos} {elts : List Expr} {kk : Nat} (hg : Gl X "enumerate") (hm : X.mg "enumerate" = none) (ha : PA X [e] ta) (hs : starEach [e] X.env = [(false, eval e X.env)] := by rfl) :
    PI X (.Tuple elts kk tpos) (.Call (.Name "enumerate" p) [e] [] pos) (iEnumW X.K ta) := by
  refine ⟨fun pins s σ H R I h => ?_⟩
  refine Call_ (ld_blt I hg hm boot_enumerate (PyProof.Rows.callWith_type1 (thn (ha.run pos pins s σ H _ I h) fun us s1 ⟨vs, H1, I1, r1, q1⟩ => ?_) hs rfl))
  obtain ⟨a, xs, ex, q1⟩ := q1
  subst ex
  have q1 := enumA_of q1.1 q1.2
  cases r1 with
  | cons r rr =>
    cases rr
    cases r
    have fresh2 : ∀ b, b ∈ [s1.heap.objs.size + 1, s1.heap.objs.size] → FpOk X pins H1 b := fun b hb => by
      have e' : b = s1.heap.objs.size + 1 ∨ b = s1.heap.objs.size := by simpa using hb
      have hle : s1.heap.objs.size ≤ b := by
        rcases e' with z | z
        · rw [z]; exact Nat.le_add_right _ _
        · rw [z]; exact Nat.le_refl _
      exact I1.fpOk hle (I1.hok.fresh hle)
    rcases q1 with ⟨hq, q⟩ | ⟨hq, q⟩
    · obtain ⟨its, rv, p', hz⟩ := I1.list hq
      refine call_enumerate_list p'.isList fun h' he hit hsz hk => wpAny_pyIter_enum he ?_
      have I2 : Inv X pins σ H1 { s1 with heap := h' } := I1.kept (t' := s1.toks) hk
      exact ⟨s1.heap.objs.size + 1, [s1.heap.objs.size + 1, s1.heap.objs.size], _, _, H1, rfl, I2, turn_enum a (s1.heap.objs.size + 1) s1.heap.objs.size, ⟨⟨.none, he⟩, hit, Nat.succ_ne_self _⟩, fresh2, q⟩
    · obtain ⟨its, rv, p', hz⟩ := I1.tuple hq
      refine EN.begins1 (begins_tuple a its.toArray) p' (fun h' he hit hsz hk => wpAny_pyIter_enum he ?_) (F.typeCall_enumerate_1 _) (F.newCall_enumerate_1 _) (fun obj => F.args_object_init_2 obj _)
      have I2 : Inv X pins σ H1 { s1 with heap := h' } := I1.kept (t' := s1.toks) hk
      exact ⟨s1.heap.objs.size + 1, [s1.heap.objs.size + 1, s1.heap.objs.size], _, _, H1, rfl, I2, turn_enumT 0 a (s1.heap.objs.size + 1) s1.heap.objs.size (Nat.succ_ne_self _), ⟨⟨.none, he⟩, ⟨_, hit, rfl, rfl⟩⟩, fresh2, q⟩
end L2

set_option maxRecDepth 100000
set_option maxHeartbeats 4000000
/-! # Tuples: t * 0, t * 1, t[::-1], sum(t) -/
namespace L2
open PySem PySem.Spec PyProof.Rows
theorem tuple_mulS (l : Addr) (items : Array Value) (n : Nat) (dd : Option Addr) (sl : Array (Option Value)) (x : Int) (u : Tok) (c0 : (decide (x < -(2 ^ 63)) || decide (x ≥ 2 ^ 63)) = false) (c1 : (items.isEmpty || x == 1) = true) :
    Meets (Builtin.«tuple.__mul__» ⟨[.ref l, .int x u], []⟩) (fun _ R s => s.heap.get? l = some { cls := .type "tuple", dict := dd, data := .seq items n, slots := sl } ∧
      R (.ok (.ret (Value.ref l))) s) :=
  .of_wp fun prog w A R s h => by
    obtain ⟨hp, g, d, tk, os⟩ := s
    obtain ⟨hl, h⟩ := h
    have f1 := AutoSeq1.idx_int
    wp_walk using wpAny_loadPart' hl
    repeat (first
      | (refine wpAny_ite_false (decide_eq_false (by rw [c0]; exact Bool.false_ne_true)) ?_; wp_walk using wpAny_loadPart' hl)
      | (refine wpAny_ite_true (decide_eq_true c1) ?_; wp_walk using wpAny_loadPart' hl))
    exact ⟨_, rfl, h⟩
theorem tuple_mul0 (l : Addr) (items : Array Value) (n : Nat) (dd : Option Addr) (sl : Array (Option Value)) (x : Int) (u : Tok) (c0 : (decide (x < -(2 ^ 63)) || decide (x ≥ 2 ^ 63)) = false) (c1 : (items.isEmpty || x == 1) = false) (c2 : (decide (x ≤ 0) || items.isEmpty) = true) :
    Meets (Builtin.«tuple.__mul__» ⟨[.ref l, .int x u], []⟩) (fun _ R s => s.heap.get? l = some { cls := .type "tuple", dict := dd, data := .seq items n, slots := sl } ∧
      R (.ok (.ret (Value.ref s.heap.objs.size))) { s with heap := s.heap.push { cls := Value.type "tuple", data := Data.seq #[] }, toks := s.toks }) :=
  .of_wp fun prog w A R s h => by
    obtain ⟨hp, g, d, tk, os⟩ := s
    obtain ⟨hl, h⟩ := h
    have f1 := AutoSeq1.idx_int
    wp_walk using wpAny_loadPart' hl
    repeat (first
      | (refine wpAny_ite_false (decide_eq_false (by rw [c0]; exact Bool.false_ne_true)) ?_; wp_walk using wpAny_loadPart' hl)
      | (refine wpAny_ite_false (decide_eq_false (by rw [c1]; exact Bool.false_ne_true)) ?_; wp_walk using wpAny_loadPart' hl)
      | (refine wpAny_ite_true (decide_eq_true c2) ?_; wp_walk using wpAny_loadPart' hl))
    exact ⟨_, rfl, h⟩
/-- t * k -/
def rRepW (K : PySem.W.Frag) : R2 := fun x y H Q => ∃ l k xs, x = .ref l ∧ y = .int k ∧ SqT K H l xs ∧ -(2 ^ 62) ≤ k ∧ k ≤ 1000 ∧ xs.length ≤ 1000 ∧ ∀ H' p, Same H H' → SqT K H' p (List.replicate k.toNat xs).flatten → Q (.ref p) H'
theorem rep_one {α : Type} (xs : List α) : (List.replicate (1 : Int).toNat xs).flatten = xs := by simp
theorem rep_nil {α : Type} (k : Nat) : (List.replicate k ([] : List α)).flatten = [] := by simp
section
variable {X : Cx}
theorem op_repW : OpR X (binaryOp .Mult) (rRepW X.K) := by
  intro pins s σ H x y v u Q I rx ry h
  obtain ⟨l, k, xs, rfl, rfl, hT, h1, h2, hz, q⟩ := h
  by_cases h3 : xs ≠ [] ∧ 2 ≤ k
  · exact op_repT pins s σ H _ _ v u Q I rx ry ⟨l, k, xs, rfl, rfl, hT, h3.1, h3.2, h2, hz, fun p hp => q _ p (.new hp) (SqT.of upd_same)⟩
  · cases rx
    obtain ⟨t, rfl⟩ := ry
    obtain ⟨its, r, ⟨⟨cls, dd, data, sl⟩, ho, hc, n, hd⟩, hs⟩ := I.tuple hT
    simp only at hc hd
    subst hc hd
    have hle : its.length = xs.length := r.length.symm
    have c0 : (decide (k < -(2 ^ 63)) || decide (k ≥ 2 ^ 63)) = false := by
      rw [decide_eq_false (by omega), decide_eq_false (by omega)] <;> rfl
    by_cases h4 : xs = [] ∨ k = 1
    · have c1 : (its.toArray.isEmpty || k == 1) = true := by
        rcases h4 with h4 | h4
        · subst h4
          have : its = [] := List.eq_nil_of_length_eq_zero (by simpa using hle)
          subst this
          rfl
        · subst h4
          simp
      refine wpAny_binaryOp_repeat_ref (T := "tuple") (U := "int") (by decide) ⟨_, ho, rfl⟩ (fun s' => typeIs_int s' k t) noFill_tuple_mul F.fills_int_mul F.slot_int_rmul repeat_tuple F.slot_int_index.lookup
        (call_meets F.slot_int_rmul (typeIs_int s k t) F.entry_int_rmul (F.args_int_rmul_2 _ _) (int_rmul_tuple k t l its.toArray n dd sl)
          ⟨ho, rfl, ⟨_, ho, rfl⟩, call_meets F.slot_tuple_mul ⟨_, ho, rfl⟩ F.entry_tuple_mul (F.args_tuple_mul_2 _ _) (tuple_mulS l its.toArray n dd sl k t c0 c1) ⟨ho, ?_⟩⟩)
      refine ⟨.ref l, H, I, rfl, q H l (.refl _) ?_⟩
      rcases h4 with h4 | h4
      · subst h4; rw [rep_nil]; exact hT
      · subst h4; rw [rep_one]; exact hT
    · have h5 : xs ≠ [] ∧ k ≤ 0 := ⟨fun z => h4 (.inl z), by
        have : k ≠ 1 := fun z => h4 (.inr z)
        have : ¬ (2 ≤ k) := fun z => h3 ⟨fun z => h4 (.inl z), z⟩
        omega⟩
      have hi : its.toArray.isEmpty = false := by
        cases its with
        | nil => exact absurd (List.eq_nil_of_length_eq_zero hle.symm) h5.1
        | cons a b => rfl
      have c1 : (its.toArray.isEmpty || k == 1) = false := by
        rw [hi, Bool.false_or]
        exact beq_eq_false_iff_ne.mpr (by omega)
      have c2 : (decide (k ≤ 0) || its.toArray.isEmpty) = true := by rw [decide_eq_true h5.2]; rfl
      have e0 : (List.replicate k.toNat xs).flatten = [] := by
        have : k.toNat = 0 := by omega
        rw [this]; rfl
      refine wpAny_binaryOp_repeat_ref (T := "tuple") (U := "int") (by decide) ⟨_, ho, rfl⟩ (fun s' => typeIs_int s' k t) noFill_tuple_mul F.fills_int_mul F.slot_int_rmul repeat_tuple F.slot_int_index.lookup
        (call_meets F.slot_int_rmul (typeIs_int s k t) F.entry_int_rmul (F.args_int_rmul_2 _ _) (int_rmul_tuple k t l its.toArray n dd sl)
          ⟨ho, rfl, ⟨_, ho, rfl⟩, call_meets F.slot_tuple_mul ⟨_, ho, rfl⟩ F.entry_tuple_mul (F.args_tuple_mul_2 _ _) (tuple_mul0 l its.toArray n dd sl k t c0 c1 c2) ⟨ho, ?_⟩⟩)
      refine ⟨.ref s.heap.objs.size, _, I.laid (t' := s.toks) (o := .tup []) (fun b ob q => Heap.get?_push_of_some _ q) (Nat.le_refl _) ?_, rfl, q _ _ (.new (I.hok.fresh (Nat.le_refl _))) (by rw [e0]; exact SqT.of upd_same)⟩
      exact ⟨Nat.zero_le _, [], .nil, IsTup.new _ _⟩
/-- t + u -/
def rCatW (K : PySem.W.Frag) : R2 := fun x y H Q => ∃ a b xs ys, x = .ref a ∧ y = .ref b ∧ SqT K H a xs ∧ SqT K H b ys ∧ xs.length + ys.length ≤ sizeLine ∧ ∀ H' p, Same H H' → SqT K H' p (xs ++ ys) → Q (.ref p) H'
theorem op_catW : OpR X (binaryOp .Add) (rCatW X.K) := by
  intro pins s σ H x y v u Q I rx ry h
  obtain ⟨a, b, xs, ys, rfl, rfl, ha, hb, hz, q⟩ := h
  exact op_catA pins s σ H _ _ v u Q I rx ry ⟨a, b, xs, ys, rfl, rfl, ha, hb, hz, fun e => q H b (.refl _) (by rw [e]; exact hb), fun _ e => q H a (.refl _) (by rw [e, List.append_nil]; exact ha), fun _ _ p hp => q _ p (.new hp) (SqT.of upd_same)⟩
/-- t[lo:hi] -/
def rSlW (K : PySem.W.Frag) : V → Option Int → Option Int → Hp → VK → Prop := fun x lo hi H Q => ∃ a xs, x = .ref a ∧ SqT K H a xs ∧ ∀ H' p, Same H H' → SqT K H' p (cutV xs lo hi) → Q (.ref p) H'
theorem sl_tupW : SlR X (rSlW X.K) := by
  intro pins s σ H x v vl vu lo hi sl Q I rx hs pl pu h
  obtain ⟨a, xs, rfl, hx, q⟩ := h
  refine sl_tupA pins s σ H _ v vl vu lo hi sl Q I rx hs pl pu ⟨a, xs, rfl, hx, fun e => q H a (.refl _) ?_, fun _ p hp => q _ p (.new hp) (SqT.of upd_same)⟩
  unfold cutV
  rw [e.1, e.2, List.drop_zero, Nat.sub_zero, List.take_length]
  exact hx

/-- sum(t), t a tuple of numbers -/
theorem cr_sumT (hc : X.calm = true) : CallR X (.builtin "sum") (fun vs H Q => ∃ (a : Addr) (ns : List Int), vs = [V.ref a] ∧ SqT X.K H a (ns.map V.int) ∧ Q (.int ns.sum) H) := by
  intro pins s σ H xs us Q I r h
  obtain ⟨a, ns, rfl, hq, q⟩ := h
  cases r with
  | cons r rr =>
  cases rr
  cases r
  obtain ⟨its, rv, hT, hz⟩ := I.tuple hq
  have hi := intsAre_of rv
  obtain ⟨ys, hx⟩ := hi.allInts.items
  have hn : numsOf its.toArray.toList = ns := by rw [show its.toArray.toList = its from rfl, hi.numsOf]
  have hT' : s.heap.IsTuple a its.toArray := let ⟨o, h1, h2, h3⟩ := hT; ⟨o, h1, h2, h3⟩
  rw [hx] at hT' hn
  rw [nums_intItems] at hn
  refine PySem.W.ktm_sumG (I.ok.hd hc) hT' fun h' tk t' hk => ?_
  rw [preSum_eq, List.take_of_length_le (by simp), hn]
  exact ⟨.int ns.sum, H, I.kept (t' := tk) hk, ⟨t', rfl⟩, q⟩
theorem cr_sumA (hc : X.calm = true) : CallR X (.builtin "sum") (fun vs H Q => ∃ (a : Addr) (ns : List Int), vs = [V.ref a] ∧ SqA X.K H a (ns.map V.int) ∧ Q (.int ns.sum) H) := by
  intro pins s σ H xs us Q I r h
  obtain ⟨a, ns, rfl, hq, q⟩ := h
  rcases hq with hq | hq
  · exact cr_sum hc pins s σ H _ us Q I r ⟨a, ns, rfl, hq, q⟩
  · exact cr_sumT hc pins s σ H _ us Q I r ⟨a, ns, rfl, hq, q⟩
/-! ### t[::-1] -/
theorem rev_pick (xs : List Value) : ((List.range xs.length).filterMap fun (m : Nat) => xs.toArray[(((xs.length : Nat) : Int) - 1 + (m : Int) * (-1)).toNat]?) = xs.reverse := by
  have key : ∀ n, n ≤ xs.length → ((List.range n).filterMap fun (m : Nat) => xs.toArray[(((xs.length : Nat) : Int) - 1 + (m : Int) * (-1)).toNat]?) = (xs.reverse).take n := by
    intro n
    induction n with
    | zero => intro _; simp
    | succ n ih =>
      intro hn
      rw [List.range_succ, List.filterMap_append, ih (by omega), List.take_succ]
      congr 1
      have e : (((xs.length : Nat) : Int) - 1 + (n : Int) * (-1)).toNat = xs.length - 1 - n := by omega
      have hlt : n < xs.reverse.length := by rw [List.length_reverse]; omega
      rw [List.filterMap_cons, List.filterMap_nil, e, List.getElem?_reverse (by omega)]
      simp only [List.getElem?_toArray]
      cases q : xs[xs.length - 1 - n]? with
      | none => simp
      | some v => simp
  rw [key xs.length (Nat.le_refl _), List.take_of_length_le (by rw [List.length_reverse]; exact Nat.le_refl _)]
theorem adjust_rev (n : Nat) : Builtin.Slice.sliceAdjust none none (-1) (n : Int) = ((n : Int) - 1, -1) := by
  unfold Builtin.Slice.sliceAdjust
  simp
theorem places_rev (n : Nat) : Builtin.Slice.slicePlaces ((n : Int) - 1) (-1) (-1) = n := by
  unfold Builtin.Slice.slicePlaces
  have h1 : ¬ ((-1 : Int) > 0) := by omega
  simp only [h1, if_false]
  split
  · simp only [Int.neg_neg, Int.ediv_one]; omega
  · simp only [Int.toNat_zero]; omega
theorem sliceApplied_rev {prog : Program} {w : World} {A : Around} {E : Value → Shared → Prop} {s : Shared} {sl : Addr} {vl vu vk : Value} {n : Nat} {Q : Int × Int × Nat → Shared → Prop} (hs : s.heap.IsSliceOf sl vl vu vk) (pl : IsPart vl none) (pu : IsPart vu none) (pk : IsPart vk (some (-1)))
    (h : Q ((n : Int) - 1, -1, n) s) : wpAny (model prog w) A (Builtin.Slice.sliceApplied (.ref sl) (pure (n : Int))) Q E s := by
  obtain ⟨os, hos, hcs, hds⟩ := id hs
  unfold Builtin.Slice.sliceApplied Builtin.Slice.sliceFields
  refine wpAny_bind (wpAny_bind (wpAny_field hos hds (x := vl) rfl (wpAny_bind (wpAny_field hos hds (x := vu) rfl (wpAny_bind (wpAny_field hos hds (x := vk) rfl (wpAny_pure ?_)))))))
  refine wpAny_bind (HT.slicePart_ pk ?_)
  show wpAny _ _ (if ((-1 : Int) == 0) = true then _ else _) _ _ s
  rw [if_neg (by decide)]
  refine wpAny_bind (HT.slicePart_ pl (wpAny_bind (HT.slicePart_ pu (wpAny_bind (wpAny_pure ?_)))))
  show wpAny _ _ (match Builtin.Slice.sliceAdjust none none (-1) (n : Int) with | (lo, hi) => pure (lo, (-1 : Int), Builtin.Slice.slicePlaces lo hi (-1))) _ _ s
  rw [adjust_rev n]
  show wpAny _ _ (pure ((n : Int) - 1, (-1 : Int), Builtin.Slice.slicePlaces ((n : Int) - 1) (-1) (-1))) _ _ s
  rw [places_rev]
  exact wpAny_pure h
theorem getItem_tuple_rev {prog : Program} {w : World} {A : Around} {E : Value → Shared → Prop} {s : Shared} {t sl : Addr} {its : List Value} {vl vu vk : Value} {Q : Value → Shared → Prop} (ht : IsTup s.heap t its.toArray) (hs : s.heap.IsSliceOf sl vl vu vk) (pl : IsPart vl none) (pu : IsPart vu none) (pk : IsPart vk (some (-1)))
    (h : Q (.ref s.heap.objs.size) { s with heap := s.heap.push { cls := .type "tuple", data := .seq its.reverse.toArray } })
    (hsz : its.length ≤ sizeLine) : wpAny (model prog w) A (getItem (.ref t) (.ref sl)) Q E s := by
  have htake : sizeOk (.seq its.reverse.toArray) := by
    show its.reverse.toArray.size ≤ sizeLine
    rw [List.size_toArray, List.length_reverse]
    exact hsz
  obtain ⟨os, hos, hcs, hds⟩ := id hs
  have hTs : s.TypeIs (.ref sl) "slice" := ⟨os, hos, hcs⟩
  unfold getItem
  try with_reducible refine wpAny_holding ?_
  first | refine wpAny_bind (wpAny_pure ?_) | skip
  refine wpAny_bind (wpAny_sequenceKey ht.typeIs (by decide) ?_)
  refine wpAny_bind (wpAny_callSpecial?_slot (name := Str.ofString "__getitem__") ht.typeIs PyProof.Rows.slot_tuple_getitem
    (wpAny_call_entry PyProof.Rows.slot_tuple_getitem ht.typeIs entry_tuple_getitem ?_ (args_tuple_getitem _ _)))
  show wpAny _ _ (Builtin.Tuple.tupleItemsOf (.ref t) >>= _) _ _ s
  refine wpAny_bind (tupleItemsOf_ ht ?_)
  refine wpAny_bind (wpAny_typeOf hTs ?_)
  rw [if_pos (by decide)]
  refine wpAny_bind (sliceApplied_rev hs pl pu pk ?_)
  have hno : ¬ ((((its.toArray.size : Int) - 1) == 0 && (-1 : Int) == 1 && its.toArray.size == its.toArray.size) = true) := by
    intro q
    rw [Bool.and_eq_true, Bool.and_eq_true] at q
    exact absurd q.1.2 (by decide)
  show wpAny _ _ (if (((its.toArray.size : Int) - 1) == 0 && (-1 : Int) == 1 && its.toArray.size == its.toArray.size) = true then _ else _) _ _ s
  rw [if_neg hno]
  have ep := rev_pick its
  rw [← List.size_toArray] at ep
  rw [ep]
  first
    | exact wpAny_bind (m := Builtin.Tuple.tupleExact _) (wpAny_newObj_type (wpAny_pure ⟨_, rfl, wpAny_pure h⟩) htake)
    | exact wpAny_bind (m := Builtin.Tuple.tupleExact _) (wpAny_newObj_type (wpAny_bind (wpAny_pure (wpAny_pure ⟨_, rfl, wpAny_pure h⟩))) htake)
    | exact wpAny_bind (wpAny_bind (m := Builtin.Tuple.tupleExact _) (wpAny_newObj_type (wpAny_pure (wpAny_pure ⟨_, rfl, wpAny_pure h⟩)) htake))
    | exact wpAny_bind (wpAny_bind (m := Builtin.Tuple.tupleExact _) (wpAny_newObj_type (wpAny_pure ⟨_, rfl, wpAny_pure h⟩) htake))
def tRevT (K : PySem.W.Frag) (te : TE) : TE := fun σ H Q => te σ H fun x H1 => ∃ a xs, x = .ref a ∧ SqT K H1 a xs ∧ ∀ p, H1 p = none → Q (.ref p) (upd H1 p (.tup xs.reverse))
theorem pe_revT {e : Expr} {te : TE} {k : Nat} {p1 p2 p3 pos : Pos} (he : PE X e te) : PE X (.Subscript e (.Slice none none (some (.UnaryOp .USub (.Constant (.int 1) k p1) p2)) p3) pos) (tRevT X.K te) := by
  refine ⟨fun pins s σ H Q I h => ?_⟩
  refine Subscript_ (thn (he.run pins s σ H _ I h) fun v s1 ⟨x, H1, I1, r1, q1⟩ => ?_)
  obtain ⟨a, xs, ex, hx, q⟩ := q1
  subst ex
  cases r1
  have hst : PO X (some (.UnaryOp .USub (.Constant (.int 1) k p1) p2)) (tPart (tUn (rU fun i => .int (-i)) (tC (.int 1)))) := po_some (pe_un un_neg pe_int)
  refine wpAny_Slice (thn (po_none.run pins s1 σ H1 (fun o H2 => o = none ∧ H2 = H1) I1 ⟨rfl, rfl⟩) fun vl s2 ⟨l, H2, I2, pl, el, e2⟩ => ?_)
  subst el e2
  refine thn (po_none.run pins s2 σ H2 (fun o H3 => o = none ∧ H3 = H2) I2 ⟨rfl, rfl⟩) fun vu s3 ⟨u, H3, I3, pu, eu, e3⟩ => ?_
  subst eu e3
  refine thn (hst.run pins s3 σ H3 (fun o H4 => o = some (-1) ∧ H4 = H3) I3 ⟨1, rfl, -1, rfl, rfl, rfl⟩) fun vs s4 ⟨o, H4, I4, ps, eo, e4⟩ => ?_
  subst eo e4
  have I5 : Inv X pins σ H4 { s4 with heap := s4.heap.push { cls := .type "slice", data := .fields #[vl, vu, vs] } } := I4.kept (t' := s4.toks) fun b ob q => Heap.get?_push_of_some _ q
  obtain ⟨its, r, ht, hz⟩ := I5.tuple hx
  have hlen := r.length
  show wpAny (model X.prog X.w) X.A (subscriptTail e (.Slice none none (some (.UnaryOp .USub (.Constant (.int 1) k p1) p2)) p3) (.ref a) (.ref s4.heap.objs.size)) (EP X pins σ Q) X.xe { s4 with heap := s4.heap.push { cls := .type "slice", data := .fields #[vl, vu, vs] } }
  refine tail_any (ops := [.ref a, .ref s4.heap.objs.size]) ht.typeIs (PyProof.Rows.slot_tuple_getitem.lookup) ?_ (by with_unfolding_all rfl)
  refine getItem_tuple_rev ht (Heap.IsSliceOf.new _ vl vu vs) pl pu ps ?_ (by omega)
  refine ⟨.ref _, _, I5.laid (t' := s4.toks) (o := .tup xs.reverse) (fun b ob q => Heap.get?_push_of_some _ q) (Nat.le_refl _) ?_, rfl, q _ (I5.hok.fresh (Nat.le_refl _))⟩
  exact ⟨by rw [List.length_reverse]; exact hz, _, r.reverse, IsTup.new _ _⟩
end
end L2

set_option maxRecDepth 100000
set_option maxHeartbeats 4000000
/-! # The head: what the program's top has left, as facts that one kernel run decides; the end of a law -/
namespace HX
open PySem PySem.W PySem.Calls PyProof.Rows He He5
open PySem.HandSPX (refsVE)

def clsXB (K : Frag) (C : Addr) : Bool := (match K.lookup C with
  | some ⟨.type ty, _, .cls cd, sl⟩ => (match cd.mro, sl.toList with
    | .ref C' :: bm, [_, _, _, _, some (.builtin n), _] => decide (ty = "type") && (decide (C' = C) && (decide (n = "ValueError.__new__") && (cd.hasDict && (!cd.hasDel && (refsVE bm && eqO (alongIn K "__init__" bm) (some (some (.builtin "ValueError.__init__"))))))))
    | _, _ => false)
  | _ => false) && (eqO (findIn K (.ref C) "__setattr__") (some (some (.builtin "object.__setattr__"))) && decide (subIn K (.ref C) (.type "ValueError") = some true))
theorem clsXB_ok {K : Frag} {C : Addr} (h : clsXB K C = true) : NX.ClsX K C := by
  obtain ⟨h1, h2⟩ := ba h
  obtain ⟨h2, h3⟩ := ba h2
  refine ⟨?_, eqO_ok h2, of_decide_eq_true h3⟩
  clear h2 h3 h
  split at h1
  · rename_i ty dd cd sl e
    split at h1
    · rename_i C' bm a0 a1 a2 a3 n a5 hm hs
      obtain ⟨k1, h1⟩ := ba h1
      obtain ⟨k2, h1⟩ := ba h1
      obtain ⟨k3, h1⟩ := ba h1
      obtain ⟨k4, h1⟩ := ba h1
      obtain ⟨k5, h1⟩ := ba h1
      obtain ⟨k6, k7⟩ := ba h1
      have e1 := of_decide_eq_true k1
      have e2 := of_decide_eq_true k2
      have e3 := of_decide_eq_true k3
      subst e1 e2 e3
      obtain ⟨nm, bs, mro, ns, qn, hd, sn, sub, ab, col, del⟩ := cd
      dsimp only at hm k4 k5
      subst hm
      have e5 : del = false := by simpa using k5
      subst k4 e5
      have hsl : sl = #[a0, a1, a2, a3, some (.builtin "ValueError.__new__"), a5] := by
        obtain ⟨l⟩ := sl
        simp only at hs
        rw [hs]
      subst hsl
      exact ⟨nm, qn, ns, bs, bm, sn, sub, ab, col, dd, a0, a1, a2, a3, a5, e, k6, eqO_ok k7⟩
    · cases h1
  · cases h1

/-- the text of an error's __init__ -/
structure InitTx (prog : Program) (st : Stmt) (qual : Str) (ps : List Str) (l : List (Str × Str)) : Prop where
  txt : ∃ msg k q1 q2 q3 q4 q5 q6 r, L2.defBody st = NX.supS msg k q1 q2 q3 q4 q5 q6 :: r ∧ NX.Sto r l ∧ (∀ env : Env, env.scope = L2.defScope st → interactive env = false) ∧
    ∀ env : Env, env.scope = L2.defScope st → ∃ pl : Sem Bool, eval (.Call (.Attribute (.Call (.Name "super" q1) [] [] q2) "__init__" q3) [.Constant (.str msg) k q4] [] q5) env = (do
      let ov ← attributeBase (.Call (.Name "super" q1) [] [] q2) "__init__" env (eval (.Call (.Name "super" q1) [] [] q2) env)
      standAt q3.atName
      let (f, first) ← holding [ov] (getMethod ov "__init__" pl)
      callWith q5 f first (backTo q5 (starEach [.Constant (.str msg) k q4] env)) [])
  par : ∃ ar, ((L2.defArgs st).posonlyargs ++ (L2.defArgs st).args).head? = some ar ∧ ar.arg = "self"
  sc : ((L2.defScope st).names.lookup ("super" : Str) = some .globalImplicit ∧ (L2.defScope st).names.lookup ("__class__" : Str) = some .free ∧ (L2.defScope st).names.lookup ("self" : Str) = some .local) ∧ (∀ x ∈ (L2.defScope st).names, x.2 ≠ .cell) ∧
    (L2.defScope st).kind = .function ∧ (L2.defScope st).isCoroutine = false ∧ (L2.defScope st).isGenerator = false
  loc : (∀ p ∈ l, (L2.defScope st).names.lookup p.2 = some .local ∧ (p.2 == ("__debug__" : Str)) = false ∧ p.2 ∈ ps) ∧ ∀ p ∈ ps, (L2.defScope st).names.lookup p = some .local
  nod : ps.Nodup ∧ ("self" : Str) ∉ ps
  bind : ∀ (s' : Shared) (e : Addr) (fd : FuncData) (us : List Value), us.length = ps.length → fd.params = L2.defArgs st → fd.scope = L2.defScope st → fd.defaults = .none → BindsTo s' fd ⟨.ref e :: us, []⟩ (("self", .ref e) :: ps.zip us)
  top : (prog.main.scope.names.lookup ("super" : Str)).isSome = false
  few : l.length ≤ 900

/-- a def with its closure's names -/
abbrev FnQ : Type := Option (Str × Str × Arguments × FuncBody × Scope × Addr × List Str × Addr)
def fnQ (K : Frag) (a : Addr) : FnQ := match K.lookup a with
  | some ⟨_, _, .func fd, _⟩ => some (fd.name, fd.qualname, fd.params, fd.body, fd.scope, fd.globals, fd.closure.map (·.1), fd.builtins)
  | _ => none
/-- an error's class: its name, its __init__'s text, its qualified name -/
structure ErrD where
  x : Str
  st : Stmt
  qual : Str
  fs : List Str
def ErrD.at_ (d : ErrD) (K : Frag) : Addr := ma K (ga K d.x) "__init__"
def ErrD.val (d : ErrD) : FnQ := some (("__init__" : Str), d.qual, L2.defArgs d.st, FuncBody.stmts (L2.defBody d.st), L2.defScope d.st, mainGlobals, [("__class__" : Str)], builtinsNs)
def ErrD.ok (file : Str) (d : ErrD) (K : Frag) : Bool := clsXB K (ga K d.x) && (eqO (findIn K (.ref (ga K d.x)) "__init__") (some (some (.ref (d.at_ K)))) && (decide (typeIn K (.ref (d.at_ K)) = some (.type "function")) && ((match K.lookup (d.at_ K) with
  | some ⟨_, _, .func fd, _⟩ => codeIn K fd.code fd.qualname && ((match fd.closure with
    | [(_, cc)] => (match K.lookup cc with
      | some ⟨_, _, .cell (some (.ref D)), _⟩ => decide (D = ga K d.x)
      | _ => false)
    | _ => false) && ((match fd.code with
    | .ref cda => (match K.lookup cda with
      | some ⟨_, _, .fields vs, _⟩ => (match (vs[2]? : Option Value) with
        | some (.str f _) => f == file
        | _ => false)
      | _ => false)
    | _ => false) && (match fd.defaults with
    | .none => true
    | _ => false)))
  | _ => false) && ((d.fs.all fun f => eqO (findIn K (.ref (ga K d.x)) f) (some none)) && (eqO (nsIn K mainGlobals d.x) (some (some (.ref (ga K d.x)))) && (keepIn K (.ref (ga K d.x)) && (decide (subIn K (.ref (ga K d.x)) (.type "BaseException") = some true) && decide (typeIn K (.ref (ga K d.x)) = some (.type "type")))))))))
theorem errD_ok {prog : Program} {K : Frag} {h : Heap} {mg : Str → Option Value} {d : ErrD} {ps : List Str} {l : List (Str × Str)} (X : K.In h) (G : h.Ns mainGlobals mg) (T : InitTx prog d.st d.qual ps l) (hf : l.map (·.1) = d.fs) (hs : mg "super" = none) (hany : nsIn K cStatics "thirdparty.any" = some none)
    (e : fnQ K (d.at_ K) = d.val) (c : d.ok (prog.main.file : Str) K = true) : L2.Exn prog K mg d.x (ga K d.x) (d.at_ K) ps l := by
  obtain ⟨c1, c⟩ := ba c
  obtain ⟨c2, c⟩ := ba c
  obtain ⟨c3, c⟩ := ba c
  obtain ⟨c4, c⟩ := ba c
  obtain ⟨c5, c⟩ := ba c
  obtain ⟨c6, c⟩ := ba c
  obtain ⟨c7, c⟩ := ba c
  obtain ⟨c8, c9⟩ := ba c
  obtain ⟨ar, hp1, hp2⟩ := T.par
  refine ⟨clsXB_ok c1, ⟨d.qual, L2.defArgs d.st, L2.defScope d.st, L2.defBody d.st, ar, ⟨T.txt, eqO_ok c2, of_decide_eq_true c3, ?_, hp1, hp2, T.sc.1.1, T.sc.1.2.1, T.sc.1.2.2, fun p hp => ⟨(T.loc.1 p hp).1, (T.loc.1 p hp).2.1, ?_⟩, T.sc.2.1, T.sc.2.2.1, T.sc.2.2.2.1, T.sc.2.2.2.2, T.top, T.few⟩, T.bind, T.loc.2⟩,
    fun p hp => (T.loc.1 p hp).2.2, T.nod, mg_of X G (eqO_ok c6), hs, hany, c7, of_decide_eq_true c8, of_decide_eq_true c9⟩
  · unfold fnQ at e
    cases q : K.lookup (d.at_ K) with
    | none =>
      rw [q] at c4
      cases c4
    | some o =>
      obtain ⟨oc, od, dt, osl⟩ := o
      rw [q] at c4 e
      cases dt with
      | func fd =>
        obtain ⟨n1, n2, n3, n4, n5, n6, n7, n8, n9, n10, n11, n12, n13, n14, n15⟩ := fd
        have e2 : (some (n1, n2, n3, n4, n5, n6, n7.map (·.1), n15) : FnQ) = some (("__init__" : Str), d.qual, L2.defArgs d.st, FuncBody.stmts (L2.defBody d.st), L2.defScope d.st, mainGlobals, [("__class__" : Str)], builtinsNs) := e
        simp only [Option.some.injEq, Prod.mk.injEq] at e2
        obtain ⟨h1, h2, h3, h4, h5, h6, h7, h8⟩ := e2
        subst h1 h2 h3 h4 h5 h6 h8
        obtain ⟨k1, k2⟩ := ba c4
        obtain ⟨kA, k3⟩ := ba k2
        obtain ⟨k3, k9⟩ := ba k3
        clear k2 c4
        dsimp only at k1 kA k3 k9
        have ed : n8 = .none := by
          cases n8 <;> first | rfl | cases k9
        subst ed
        split at kA
        · rename_i nn cc
          have en : nn = "__class__" := by simpa using h7
          subst en
          split at kA
          · rename_i cl cld D csl qc
            have eD := of_decide_eq_true kA
            subst eD
            split at k3
            · rename_i cda hcd9
              have hcd8 : n13 = .ref cda := hcd9
              subst hcd8
              split at k3
              · rename_i ccl cdd vs ccs qd
                split at k3
                · rename_i f tf qv
                  have ef : f = prog.main.file := by simpa using k3
                  exact ⟨oc, od, n9, n10, n11, n12, cda, n14, osl, cc, cl, cld, csl, ccl, cdd, vs, ccs, f, tf, rfl, k1, qc, qd, qv, by rw [ef]; simp⟩
                · cases k3
              · cases k3
            · cases k3
          · cases kA
        · cases kA
      | _ => cases c4
  · have := List.all_eq_true.mp c5 p.1 (by rw [← hf]; exact List.mem_map_of_mem hp)
    exact eqO_ok this

/-! ### the Hook -/
abbrev AlX : Type := Bool × List He5.FnW × List FnQ
def obsX (bx : Frag → Bool) (fn : List DefA) (er : List ErrD) (file : Str) (K : Frag) : AlX := (bx K && (fn.all (fun d => d.ok K) && er.all fun d => d.ok file K), fn.map fun d => fnA K (d.at_ K), er.map fun d => fnQ K (d.at_ K))
def valX (fn : List DefA) (er : List ErrD) : AlX := (true, fn.map DefA.val, er.map ErrD.val)
def SaysX (bx : Frag → Bool) (fn : List DefA) (er : List ErrD) (file : Str) (K : Frag) : Prop := obsX bx fn er file K = valX fn er
def obsXG (n : Nat) (bx : Frag → Bool) (fn : List DefA) (er : List ErrD) (file : Str) (g : Addr → Option Obj) : AlX := obsX bx fn er file (frG g (asA g n))
def hookX (n : Nat) (bx : Frag → Bool) (fn : List DefA) (er : List ErrD) (file : Str) : PySem.W.Hook where
  α := AlX
  obs := fun s => obsXG n bx fn er file s.heap.get?
  val := fun _ => valX fn er
  says := fun _ h => ∃ K : Frag, K.In h ∧ SaysX bx fn er file K
  of := fun _ _ e => ⟨_, frG_in, e⟩
  keeps := fun _ _ _ ⟨K, hK, c⟩ k => ⟨K, Frag.In.keeps hK k, c⟩
theorem obsXG_eq {n : Nat} {bx : Frag → Bool} {fn : List DefA} {er : List ErrD} {file : Str} {g : Addr → Option Obj} {s : Shared} (h : ∀ a, g a = s.heap.get? a) : obsXG n bx fn er file g = (hookX n bx fn er file).obs s := by
  have e : g = s.heap.get? := funext h
  rw [e] <;> rfl
section
variable {bx : Frag → Bool} {fn : List DefA} {er : List ErrD} {file : Str} {K : Frag}
theorem SaysX.bool (c : SaysX bx fn er file K) : bx K = true := (ba (show (bx K && (fn.all (fun d => d.ok K) && er.all fun d => d.ok file K)) = true from congrArg (fun z : AlX => z.1) c)).1
theorem SaysX.def_ (c : SaysX bx fn er file K) (i : Nat) {d : DefA} (h : fn[i]? = some d := by rfl) : ∃ fd, L2.FunD K d.name d.qual d.params d.body d.scope (d.dvs K) (d.kws K) (d.at_ K) fd := by
  have c2 := (ba (ba (show (bx K && (fn.all (fun d => d.ok K) && er.all fun d => d.ok file K)) = true from congrArg (fun z : AlX => z.1) c)).2).1
  have e : fn.map (fun d => fnA K (d.at_ K)) = fn.map DefA.val := congrArg (fun z : AlX => z.2.1) c
  have e2 : (fn.map fun d => fnA K (d.at_ K))[i]? = (fn.map DefA.val)[i]? := by rw [e]
  rw [List.getElem?_map, List.getElem?_map, h] at e2
  exact DefA.funD (Option.some.inj e2) (List.all_eq_true.mp c2 d (List.mem_of_getElem? h))
theorem SaysX.err_ (c : SaysX bx fn er file K) (i : Nat) {d : ErrD} (h : er[i]? = some d := by rfl) : fnQ K (d.at_ K) = d.val ∧ d.ok file K = true := by
  have c2 := (ba (ba (show (bx K && (fn.all (fun d => d.ok K) && er.all fun d => d.ok file K)) = true from congrArg (fun z : AlX => z.1) c)).2).2
  have e : er.map (fun d => fnQ K (d.at_ K)) = er.map ErrD.val := congrArg (fun z : AlX => z.2.2) c
  have e2 : (er.map fun d => fnQ K (d.at_ K))[i]? = (er.map ErrD.val)[i]? := by rw [e]
  rw [List.getElem?_map, List.getElem?_map, h] at e2
  exact ⟨Option.some.inj e2, List.all_eq_true.mp c2 d (List.mem_of_getElem? h)⟩
end
end HX

namespace L2
open PySem PySem.Spec PyProof.Rows
/-- the end of a law over a head by facts, the script's bits told -/
theorem walk_ofX {l : PySem.W.OpenLaw} {n k : Nat} {q : Program} {loose : List Str} {XP : (Str → Option Value) → Heap → Prop} {YP : World → Heap → Prop} {d : DefRec} {CX : World → CXT} {x : Str}
    (hn : l.most = some n) (hn2 : n ≤ sizeLine) (hdf : d.params.defaults = []) (hr : Room k callerA)
    (F : ∀ (w : World) (mg : Str → Option Value) (fa : Addr) (h : Heap), YP w h → h.Ns mainGlobals mg → mg d.name = some (.ref fa) →
      ∃ (K : PySem.W.Frag) (fd : FuncData) (sp : Sp), K.In h ∧ (∀ (s : Shared) (u : Value), BindsTo s fd ⟨[u], []⟩ [(x, u)]) ∧
        (∀ (H : Hp) (a : Addr) (ns : List Int), ns.length ≤ n → (∀ z ∈ ns, Builtin.Int.intBits z ≤ 1048576) → Only H → SqL K H a (ns.map V.int) → sp [.ref a] H (fun v _ => v = .bl true) fun _ _ _ => False) ∧
        ∀ base : Heap, K.In base → base.Ns mainGlobals mg → FnOk l.prog w K mg base (CX w) k fa fd [x] sp)
    (hCX : ∀ (w : World) (H : Hp) (s : Shared) (e : Value) (s' : Shared), CX w [] H s (fun _ _ _ => False) e s' → False) :
    PySem.W.WalkO q loose XP YP l.row.toRowW d [] (fun f vs => PySem.call f vs) := by
  refine Att.attach_callB hn hdf fun w s₀ s₁ mg mb fa o pm cd doc a vs ns G Y ho hd hcd hmg hobj hints hlen hbits hg => ?_
  obtain ⟨K, fd, sp, KX, hb, hsp, hF⟩ := F w mg fa _ Y G.T.g hmg
  exact law_call KX G.T.g G.T.b G.T.builtins G.T.nolimit hg hobj hints (Nat.le_trans hlen hn2) hr hF hb (fun H hO hS => hsp H a ns hlen hbits hO hS) fun H e s' => hCX w H s₁ e s'
end L2

set_option maxRecDepth 100000
set_option maxHeartbeats 4000000
/-! # n * obj; facts of classes by one Bool -/
namespace L2
open PySem PySem.Spec PyProof.Rows
theorem int_mul_ins (k : Int) (t : Tok) (l : Addr) (C : Value) (dd : Option Addr) (sl : Array (Option Value)) :
    Meets (Builtin.«int.__mul__» ⟨[.int k t, .ref l], []⟩) (fun _ R s => s.heap.get? l = some { cls := C, dict := dd, data := .plain, slots := sl } ∧ R (.ok (.ret Value.notImplemented)) s) :=
  .of_wp fun prog w A R s h => by obtain ⟨hp, g, d, tk, os⟩ := s; obtain ⟨hl, h⟩ := h; wp_walk using wpAny_loadPart' hl; exact ⟨_, rfl, h⟩
/-- n op a, a of a class with the operator and its reflected one -/
structure OwnR (K : PySem.W.Frag) (C : Addr) (op : Operator) (f : Addr) : Prop where
  first : PySem.W.selfFirst K C = true
  mul : ∃ g, PySem.W.findIn K (.ref C) (PySem.dunder op.info.2) = some (some (.ref g))
  at_ : PySem.W.findIn K (.ref C) (dunderR op.info.2) = some (some (.ref f))
  fn : PySem.W.isFn K (.ref f) = true
  sub : PySem.W.subIn K (.ref C) (.type "int") = some false
def rOwnR (C : Addr) (sp : Sp) (E : XK) : R2 := fun x y H Q => ∃ a dx fs n, x = .int n ∧ y = .ref a ∧ H a = some (.ins C dx fs) ∧ sp [.ref a, .int n] H Q E
section
open PySem.W
theorem ksp_rbin {prog : Program} {w : World} {A : Around} {E : Value → Shared → Prop} {s : Shared} {K : Frag} {x C L f : Addr} {h₀ : Heap} {m : Str → Option Value} {od : Option Obj} {dx : Addr} {k : Int} {t : Tok} {op : Operator} {idl : String} {Q : Value → Shared → Prop}
    (Fr0 : Fr h₀ L s.heap m) (X₀ : K.In h₀) (I : InstAt s.heap x (instObj C dx) C od) (O : OwnR K C op f) (hf : fillsNumberSlot (.type "int") op.info.2 = pure true) (hl : Slot "int" (PySem.dunder op.info.2) idl)
    (hd : ∀ {Q' : Value → Shared → Prop}, Q' .notImplemented s → wpAny (model prog w) A (call (.builtin idl) [.int k t, .ref x]) Q' E s)
    (h : wpAny (model prog w) A (call (.ref f) [.ref x, .int k t]) (PySem.W.CmpBack Q) E s) : wpAny (model prog w) A (binaryOp op (.int k t) (.ref x)) Q E s := by
  have X := X₀.keeps Fr0.keep
  obtain ⟨cd, rest, hcd, hm⟩ := ksp_first O.first
  obtain ⟨g0, hg0⟩ := O.mul
  have one := ksp_try X I O.at_ O.fn h
  have two : ∀ {Q' : Option Value → Shared → Prop}, Q' none s → wpAny (model prog w) A (tryMethod (.int k t) (PySem.dunder op.info.2) (.ref x)) Q' E s := fun {Q'} q =>
    wpAny_tryMethod_declines (typeIs_int s k t) hl (hd ⟨rfl, q⟩)
  have oat := O.at_
  rcases hi : op.info with ⟨sym, nm'⟩
  rw [hi] at hg0 hf two one
  dsimp only at hg0 hf two one
  obtain ⟨hh, gg, d, tt, os⟩ := s
  have L1 : Looks (model prog w) hh (typeOf (.ref x)) (.ref C) := I.type
  have L2 : Looks (model prog w) hh (typeOf (.int k t)) (.type "int") := Looks.of_pure rfl
  have L3 : Looks (model prog w) hh (fillsNumberSlot (.ref C) nm') true := fills_K X hcd hm hg0
  have L4 : Looks (model prog w) hh (fillsNumberSlot (.type "int") nm') true := Looks.of_pure hf
  have L5 : Looks (model prog w) hh (isSubtype (.ref C) (.type "int")) false := looks_subIn X O.sub
  have L7 : Looks (model prog w) hh (numberSlotInPython (.type "int") nm') false := Looks.of_pure rfl
  have hne : (Value.type "int" == Value.ref C) = false := Bool.eq_false_iff.mpr fun q => by cases beq_iff_eq.mp q
  simp only [binaryOp, hi]
  refine wpAny_holding (wpAny_bind ?_)
  unfold binaryOp1
  refine wpAny_bind (L2.at (wpAny_bind (L1.at (wpAny_bind (L4.at ?_)))))
  simp only [hne, Bool.false_eq_true, if_false]
  refine wpAny_bind (L3.at ?_)
  simp only [Bool.and_self, if_true]
  refine wpAny_bind (L5.at ?_)
  simp only [Bool.false_eq_true, if_false, pure_bind, Bool.not_false, Bool.and_self, if_true]
  refine wpAny_bind (L7.at ?_)
  simp only [Bool.false_eq_true, if_false, pure_bind, Bool.not_false, Bool.and_self, if_true]
  refine wpAny_bind (two ?_)
  simp only [Bool.false_eq_true, if_false, pure_bind]
  refine wpAny_bind (wpAny_mono one (fun r s' hr' => ?_) fun _ _ e => e)
  obtain ⟨v, rfl, hq⟩ := hr'
  exact wpAny_bind (wpAny_rule (wpAny_pure (wpAny_pure hq)))
end
section
variable {X : Cx} {CX : CXT} {C f : Addr} {fd : FuncData} {ps : List Str} {sp : Sp} {E : XK} {k : Nat}
theorem op_ownR (O : OwnR X.K C .Mult f) (F0 : FnOk X.prog X.w X.K X.mg X.base CX k f fd ps sp) (hb : Binds X.K fd ps []) (hr : Room k X.A) (hx : Passes CX X E) :
    OpR X (binaryOp .Mult) (rOwnR C sp E) := by
  intro pins s σ H x y v u Q I rx ry h
  obtain ⟨a, dx, fs, n, rfl, rfl, ha, hsp⟩ := h
  obtain ⟨t, rfl⟩ := rx
  cases ry
  obtain ⟨mA, J0, rel, _⟩ := ins_get I.hok ha
  obtain ⟨od, J, _⟩ := J0.look
  obtain ⟨m, hF⟩ := I.fr
  refine ksp_rbin hF I.ok.mod.kin J O F.fills_int_mul F.slot_int_mul (fun q => call_meets F.slot_int_mul (typeIs_int s n t) F.entry_int_mul (F.args_int_mul_2 _ _) (int_mul_ins n t a (.ref C) (some dx) #[]) ⟨J0.obj, q⟩) (wpAny_mono (run_fn F0 hr hb .nil hx I (us := [.ref a, .int n t]) (vs := [.ref a, .int n]) (.cons rfl (.cons ⟨t, rfl⟩ .nil)) hsp) (fun r s' q => back_of q) fun _ _ z => z)
/-- a def called within a built-in's call -/
theorem run_fnA {A : Around} {pins : List (Addr × Obj)} {σ : St} {H : Hp} {s : Shared} {Q : VK} {us : List Value} {vs : List V} (F : FnOk X.prog X.w X.K X.mg X.base CX k f fd ps sp) (hb : Binds X.K fd ps []) (hr : Room k A) (e0 : Env0 X.prog X.w X.K X.mg X.base A X.stack s H) (hx : Passes CX X E)
    (I : Inv X pins σ H s) (r : Vals vs us) (h : sp vs H Q E) : wpAny (model X.prog X.w) A (call (.ref f) us) (EP X pins σ Q) X.xe s := by
  have hl : us.length = ps.length := r.length.symm.trans (F.len _ _ _ _ h)
  have B : BindsTo s fd ⟨us, []⟩ (ps.zip us) := by
    have := hb s us I.kIn (by rw [List.append_nil]; exact hl)
    rwa [List.append_nil] at this
  refine wpAny_call (codeAny_mono (F.run A X.stack s H ⟨us, []⟩ us vs Q E hr e0 B r h) fun r s' hq => ?_)
  cases r with
  | error e => exact hx pins σ H s e s' I hq
  | ok fl =>
    cases fl with
    | ret u => exact I.after hq
    | next => exact False.elim hq
    | brk => exact False.elim hq
    | cont => exact False.elim hq
/-- abs(a), a of a class with __abs__ -/
def rOwnAbs (C : Addr) (sp : Sp) (E : XK) : List V → Hp → VK → Prop := fun xs H Q => ∃ a dx fs, xs = [.ref a] ∧ H a = some (.ins C dx fs) ∧ sp [.ref a] H Q E
theorem call_ownAbs (hs : PySem.W.findIn X.K (.ref C) "__abs__" = some (some (.ref f))) (hf : PySem.W.isFn X.K (.ref f) = true) (F : FnOk X.prog X.w X.K X.mg X.base CX k f fd ps sp) (hb : Binds X.K fd ps []) (hr : Room (k + 1) X.A) (hx : Passes CX X E) :
    CallR X (.builtin "abs") (rOwnAbs C sp E) := by
  intro pins s σ H xs us Q I r h
  obtain ⟨a, dx, fs, rfl, ha, hsp⟩ := h
  cases r with
  | cons r rr =>
  cases rr
  cases r
  obtain ⟨od, J⟩ := inst_of I.hok ha
  refine Calls.call_function_entry kind_abs plain_abs entry_abs (args_abs _) ?_
  unfold Builtin.«abs»
  refine wpAny_bind (m := oneArg "abs" _) (wpAny_of_eq (a := Value.ref a) (by first | rfl | kernel_rfl!) ?_)
  refine wpAny_bind (PySem.W.special_fn I.kIn J hs (beq_iff_eq.mp hf) (wpAny_mono (run_fnA F hb hr.in1 I.env0.in1 hx I (us := [.ref a]) (vs := [.ref a]) (.cons rfl .nil) hsp) (fun v s' q => ?_) fun _ _ z => z))
  exact wpAny_pure ⟨_, rfl, q⟩
/-- len(a), a of a class with __len__ -/
def rOwnLen (C : Addr) (sp : Sp) (E : XK) : List V → Hp → VK → Prop := fun xs H Q => ∃ a dx fs, xs = [.ref a] ∧ H a = some (.ins C dx fs) ∧ sp [.ref a] H (fun v H' => ∃ n : Nat, v = .int n ∧ n ≤ sizeLine ∧ Q v H') E
end
end L2

set_option maxRecDepth 100000
set_option maxHeartbeats 4000000
/-! # Facts of a class by one Bool each; walks over own instances, over lists or tuples -/
namespace FB
open PySem PySem.W PySem.Calls PyProof.Rows He He5 HX
abbrev mT : Value := .type "type"
def creadB (K : Frag) (C : Addr) : Bool := readsIn K C mT && eqO (specialIn K (.ref C) "__getattribute__") (some (some (.builtin "type.__getattribute__")))
theorem cread_ok {K : Frag} {C : Addr} (h : creadB K C = true) : ClX.CRead K C mT := by
  obtain ⟨h1, h2⟩ := ba h
  exact ⟨h1, eqO_ok h2⟩
def cintB (K : Frag) (C : Addr) (f : Str) (i : Int) : Bool := match findCls K (.ref C) mT f with
  | some (.val (.int j _)) => decide (j = i)
  | _ => false
theorem cint_ok {K : Frag} {C : Addr} {f : Str} {i : Int} (h : cintB K C f i = true) : ∃ u, ClX.CVal K C mT f (.int i) u := by
  unfold cintB at h
  split at h
  · rename_i j t e
    have := of_decide_eq_true h
    subst this
    exact ⟨_, e, ⟨t, rfl⟩⟩
  · cases h
def addrO : Option (Option Value) → Bool
  | some none => true
  | some (some (.ref _)) => true
  | _ => false
theorem addrO_ok {o : Option (Option Value)} (h : addrO o = true) : ∃ rc, o = some rc ∧ (rc = none ∨ ∃ g : Addr, rc = some (.ref g)) := by
  cases o with
  | none => cases h
  | some o =>
    cases o with
    | none => exact ⟨_, rfl, .inl rfl⟩
    | some v => cases v <;> first | exact ⟨_, rfl, .inr ⟨_, rfl⟩⟩ | (cases h; done)
def opB (K : Frag) (C : Addr) (op : Operator) (f : Addr) : Bool := selfFirst K C && (eqO (findIn K (.ref C) (PySem.dunder op.info.2)) (some (some (.ref f))) && isFn K (.ref f))
theorem op_ok {K : Frag} {C f : Addr} {op : Operator} (h : opB K C op f = true) : L2.OwnOp K C op f := by
  obtain ⟨h1, h⟩ := ba h
  obtain ⟨h2, h3⟩ := ba h
  exact ⟨h1, eqO_ok h2, h3⟩
def opTB (K : Frag) (C : Addr) (op : Operator) (f : Addr) (T : String) : Bool := opB K C op f && (addrO (findIn K (.ref C) (dunderR op.info.2)) && ((findIn K (.type T) (PySem.dunder op.info.2)).isSome && ((findIn K (.type T) (dunderR op.info.2)).isSome && decide (subIn K (.type T) (.ref C) = some false))))
theorem opT_ok {K : Frag} {C f : Addr} {op : Operator} {T : String} (h : opTB K C op f T = true) : L2.OwnOpT K C op f T := by
  obtain ⟨h1, h⟩ := ba h
  obtain ⟨h2, h⟩ := ba h
  obtain ⟨h3, h⟩ := ba h
  obtain ⟨h4, h5⟩ := ba h
  exact { op_ok h1 with rev := addrO_ok h2, tf := Option.isSome_iff_exists.mp h3, tr := Option.isSome_iff_exists.mp h4, sub := of_decide_eq_true h5 }
def opRB (K : Frag) (C : Addr) (op : Operator) (f : Addr) : Bool := selfFirst K C && ((match findIn K (.ref C) (PySem.dunder op.info.2) with | some (some (.ref _)) => true | _ => false) && (eqO (findIn K (.ref C) (dunderR op.info.2)) (some (some (.ref f))) && (isFn K (.ref f) && decide (subIn K (.ref C) (.type "int") = some false))))
theorem opR_ok {K : Frag} {C f : Addr} {op : Operator} (h : opRB K C op f = true) : L2.OwnR K C op f := by
  obtain ⟨h1, h⟩ := ba h
  obtain ⟨h2, h⟩ := ba h
  obtain ⟨h3, h⟩ := ba h
  obtain ⟨h4, h5⟩ := ba h
  refine ⟨h1, ?_, eqO_ok h3, h4, of_decide_eq_true h5⟩
  split at h2
  · rename_i g e
    exact ⟨g, e⟩
  · cases h2
/-- a special method m of C at f -/
def spB (K : Frag) (C : Addr) (m : Str) (f : Addr) : Bool := eqO (findIn K (.ref C) m) (some (some (.ref f))) && isFn K (.ref f)
theorem sp_ok {K : Frag} {C f : Addr} {m : Str} (h : spB K C m f = true) : findIn K (.ref C) m = some (some (.ref f)) ∧ isFn K (.ref f) = true := by
  obtain ⟨h1, h2⟩ := ba h
  exact ⟨eqO_ok h1, h2⟩
/-- a classmethod m of C, its def at g -/
def cmetB (K : Frag) (C : Addr) (m : Str) (g : Addr) : Bool := match findCls K (.ref C) mT m with
  | some (.get (.builtin n) (.ref p) .none (.ref D)) => decide (n = "classmethod.__get__") && (decide (D = C) && ((match recIn K p "classmethod" with
    | some (.ref g' :: _) => decide (g' = g)
    | _ => false) && fnIn K g))
  | _ => false
theorem cmet_ok {K : Frag} {C g : Addr} {m : Str} (h : cmetB K C m g = true) : ∃ p, ClX.CMet K C mT m p g := by
  unfold cmetB at h
  split at h
  · rename_i n p D e
    obtain ⟨h1, h⟩ := ba h
    obtain ⟨h2, h⟩ := ba h
    obtain ⟨h3, h4⟩ := ba h
    have e1 := of_decide_eq_true h1
    have e2 := of_decide_eq_true h2
    subst e1 e2
    split at h3
    · rename_i g' r er
      have e3 := of_decide_eq_true h3
      subst e3
      exact ⟨p, e, ⟨r, er⟩, h4⟩
    · cases h3
  · cases h
end FB
namespace L2
open PySem PySem.Spec PyProof.Rows PySem.W
/-- the facts of __iter__ from its text -/
theorem ownIt_of {K : Frag} {mg : Str → Option Value} {C f : Addr} {fld qual : Str} {fd : FuncData} {st : Stmt} (c : Cls K C) (n : NoAttr K C fld) (a : findIn K (.ref C) "__iter__" = some (some (.ref f))) (hf : isFn K (.ref f) = true) (hm : mg "iter" = none)
    (F : FunD K "__iter__" qual (defArgs st) (defBody st) (defScope st) [] [] f fd)
    (tx : ∃ p1 p2 p3 p4 p5, defBody st = [.Return (some (.Call (.Name "iter" p1) [.Attribute (.Name "self" p2) fld p3] [] p4)) p5] ∧ ∀ env : Env, env.scope = defScope st → attributeBase (.Name "self" p2) fld env (eval (.Name "self" p2) env) = eval (.Name "self" p2) env)
    (sc : (defScope st).names.lookup ("self" : Str) = some .local ∧ (defScope st).names.lookup ("iter" : Str) = some .globalImplicit ∧ (∀ x ∈ (defScope st).names, x.2 ≠ .cell) ∧ (defScope st).kind = .function ∧ (defScope st).isCoroutine = false ∧ (defScope st).isGenerator = false)
    (hb : ∀ (s : Shared) (fd : FuncData) (v : Value), fd.params = defArgs st → fd.scope = defScope st → fd.defaults = .none → BindsTo s fd ⟨[v], []⟩ [("self", v)]) : OwnIt K mg C f fld := by
  obtain ⟨oc, od, dV, kV, doc, pm, an, cdv, ct, osl, rfl, lk, hcd, hD, _⟩ := F.ex
  obtain ⟨p1, p2, p3, p4, p5, hbody, hbase⟩ := tx
  have e : dV = .none := by
    rcases hD with ⟨_, e⟩ | ⟨e, _⟩
    · exact e
    · exact absurd rfl e
  subst e
  rw [hbody] at lk
  exact ⟨c, n, a, hf, hm, qual, defArgs st, defScope st, p1, p2, p3, p4, p5, ⟨oc, od, kV, doc, pm, an, cdv, ct, osl, lk, hcd⟩, sc.1, sc.2.1, sc.2.2.1, sc.2.2.2.1, sc.2.2.2.2.1, sc.2.2.2.2.2, hb, hbase⟩
section
variable {X : Cx} {tg : Expr}
/-- for x in a, a an own instance whose field is a tuple -/
def iOwn (K : Frag) (C : Addr) (fld : Str) (te : TE) : TI := fun σ H R => te σ H fun x H1 => ∃ a dx fs t xs, x = .ref a ∧ H1 a = some (.ins C dx fs) ∧ fs.lookup fld = some (.ref t) ∧ SqT K H1 t xs ∧ R (Itt K t) H1
theorem pi_own {C f : Addr} {fld : Str} {k : Nat} {e : Expr} {te : TE} (O : OwnIt X.K X.mg C f fld) (hr : Room k X.A) (he : PE X e te) : PI X tg e (iOwn X.K C fld te) := by
  refine ⟨fun pins s σ H R I h => ?_⟩
  refine thn (he.run pins s σ H _ I h) fun v s1 ⟨x, H1, I1, r1, q1⟩ => ?_
  obtain ⟨a, dx, fs, t, xs, ex, ha, hl, hT, q⟩ := q1
  subst ex
  cases r1
  refine own_iter O hr I1 ha hl hT fun h' tk it hk hit ho => ?_
  have I2 : Inv X pins σ H1 { s1 with heap := h', toks := tk } := I1.kept (t' := tk) hk
  refine ⟨it, [it], _, _, H1, rfl, I2, turn_tuple t it, ⟨_, ho, rfl, rfl⟩, fun b hb => ?_, q⟩
  have e : b = it := by simpa using hb
  subst e
  exact I1.fpOk hit (I1.hok.fresh hit)
/-- for x in a, a a list or a tuple -/
def iSeqW (K : Frag) (te : TE) : TI := fun σ H R => te σ H fun x H1 => ∃ a xs, x = .ref a ∧ SqA K H1 a xs ∧ ∀ (J : It) (G : Hp → Prop), (∀ H', Same H1 H' → G H') → Walk J xs.length G (YAt xs) → R J H1
theorem pi_seqW {l : Expr} {tl : TE} (hl : PE X l tl) : PI X tg l (iSeqW X.K tl) := by
  refine ⟨fun pins s σ H R I h => ?_⟩
  refine thn (hl.run pins s σ H _ I h) fun v s1 ⟨x, H1, I1, r1, q1⟩ => ?_
  obtain ⟨a, xs, e, hq, q⟩ := q1
  subst e
  cases r1
  rcases hq with hq | hq
  · obtain ⟨its, rv, p, hz⟩ := I1.list hq
    refine wpAny_pyIter_list p.isList ?_
    refine ⟨s1.heap.objs.size, [s1.heap.objs.size], _, _, H1, rfl, I1.kept (t' := s1.toks) fun b o e => Heap.get?_push_of_some _ e, turn_list a _, ⟨_, Heap.get?_push_size _ rfl, rfl, rfl⟩, fun b hb => ?_, q _ _ (fun _ sm => sm.seq hq) walk_list⟩
    have e : b = s1.heap.objs.size := by simpa using hb
    subst e
    exact I1.fpOk (Nat.le_refl _) (I1.hok.fresh (Nat.le_refl _))
  · obtain ⟨its, rv, p, hz⟩ := I1.tuple hq
    refine wpAny_pyIter_tuple (show s1.heap.IsTuple a its.toArray from p) ?_
    refine ⟨s1.heap.objs.size, [s1.heap.objs.size], _, _, H1, rfl, I1.kept (t' := s1.toks) fun b o e => Heap.get?_push_of_some _ e, turn_tuple a _, ⟨_, Heap.get?_push_size _ rfl, rfl, rfl⟩, fun b hb => ?_, q _ _ (fun _ sm => sm.seqT hq) walk_tup⟩
    have e : b = s1.heap.objs.size := by simpa using hb
    subst e
    exact I1.fpOk (Nat.le_refl _) (I1.hok.fresh (Nat.le_refl _))
end
end L2

set_option maxRecDepth 100000
set_option maxHeartbeats 4000000
/-! # A def that keeps its promise, in one word; calls of it -/
namespace L2
open PySem PySem.Spec PyProof.Rows
structure Ok (P : Program) (w : World) (K : PySem.W.Frag) (mg : Str → Option Value) (base : Heap) (CX : CXT) (k : Nat) (f : Addr) (ps : List Str) (sp : Sp) : Prop where
  ex : ∃ fd, FnOk P w K mg base CX k f fd ps sp ∧ Binds K fd ps [] ∧ PySem.W.keepIn K (.ref f) = true
section
variable {P : Program} {w : World} {K : PySem.W.Frag} {mg : Str → Option Value} {base : Heap} {CX : CXT} {k j : Nat} {f : Addr} {ps : List Str} {sp sp' : Sp}
theorem Ok.mono (O : Ok P w K mg base CX k f ps sp) (h : k ≤ j) : Ok P w K mg base CX j f ps sp := let ⟨fd, a, b, c⟩ := O.ex; ⟨fd, a.mono h, b, c⟩
theorem Ok.imp (O : Ok P w K mg base CX k f ps sp) (h : ∀ vs H Q E, sp' vs H Q E → sp vs H Q E) : Ok P w K mg base CX k f ps sp' := let ⟨fd, a, b, c⟩ := O.ex; ⟨fd, a.imp h, b, c⟩
/-- the proof of a def: its names' number, then its body -/
theorem Ok.of {x qual : Str} {params : Arguments} {body : List Stmt} {scope : Scope} {N : List Str} (n : Nat) (hf : ∃ fd, FunD K x qual params body scope [] [] f fd) (S : FnScope N ps scope) (hb : ∀ {fd : FuncData}, FunD K x qual params body scope [] [] f fd → Binds K fd ps []) (hk : n + 1 ≤ k)
    (len : ∀ vs H Q E, sp vs H Q E → vs.length = ps.length)
    (hbody : ∀ (cdv : Value) (A : Around) (outer : List Env) (s : Shared) (H : Hp) (vs : List V) (Q : VK) (E : XK), Room n (A.deeper (envOfC qual scope s.heap.objs.size f cdv)) → sp vs H Q E →
      ∃ t, PSs (cxOf CX P w K mg base N qual scope f cdv A outer s H E) body t ∧ t { nx := fun _ H' => Q .non H', rt := Q } (start N vs) H) : Ok P w K mg base CX k f ps sp := by
  obtain ⟨fd, F⟩ := hf
  exact ⟨fd, (F.ok S len hbody).mono hk, hb F, F.kp⟩
end
section
variable {X : Cx} {CX : CXT} {k : Nat} {f C : Addr} {ps : List Str} {sp : Sp} {E : XK} {x m : Str} {p pos apos : Pos} {e o : Expr} {es : List Expr} {ta : TE} {t : TA}
theorem pc (O : Ok X.prog X.w X.K X.mg X.base CX k f ps sp) (hr : Room k X.A) (hm : X.mg x = some (.ref f)) (hx : Passes CX X E) (ha : PA X (e :: es) t) (hg : Gl X x := by rfl) (hdb : (x == ("__debug__" : Str)) = false := by decide)
    (he : starEach (e :: es) X.env = (false, eval e X.env) :: starEach es X.env := by rfl) (hpl : (backTo pos (starEach es X.env)).any (·.1) = false := by rfl) :
    PE X (.Call (.Name x p) (e :: es) [] pos) (tCall sp [] E t) := let ⟨fd, a, b, c⟩ := O.ex; pe_call a hr hg hm c b .nil hx ha hdb he hpl
theorem pc0 (O : Ok X.prog X.w X.K X.mg X.base CX k f ps sp) (hr : Room k X.A) (hm : X.mg x = some (.ref f)) (hx : Passes CX X E) (hg : Gl X x := by rfl) (hdb : (x == ("__debug__" : Str)) = false := by decide) :
    PE X (.Call (.Name x p) [] [] pos) (tCall sp [] E tNil) := let ⟨fd, a, b, c⟩ := O.ex; pe_call0 a hr hg hm c b .nil hx hdb
theorem pmk (O : Ok X.prog X.w X.K X.mg X.base CX k f ps sp) (M : Mk X.K C f) (hr : Room (k + 1) X.A) (hm : X.mg x = some (.ref C)) (hx : Passes CX X E) (ha : PA X (e :: es) t) (hg : Gl X x := by rfl) (hdb : (x == ("__debug__" : Str)) = false := by decide)
    (he : starEach (e :: es) X.env = (false, eval e X.env) :: starEach es X.env := by rfl) (hpl : (backTo pos (starEach es X.env)).any (·.1) = false := by rfl) :
    PE X (.Call (.Name x p) (e :: es) [] pos) (tMake C sp [] E t) := let ⟨fd, a, b, c⟩ := O.ex; pe_make M a hr hg hm b .nil hx ha hdb he hpl
theorem pmeth {pl : Sem Bool} (O : Ok X.prog X.w X.K X.mg X.base CX k f ps sp) (he : PE X o ta) (c : Cls X.K C) (hm : Meth X.K C m f) (hr : Room k X.A) (hx : Passes CX X E) (ha : PA X (e :: es) t)
    (hst : starEach (e :: es) X.env = (false, eval e X.env) :: starEach es X.env := by rfl) (hpl : (backTo pos (starEach es X.env)).any (·.1) = false := by rfl)
    (ht : eval (.Call (.Attribute o m apos) (e :: es) [] pos) X.env = (do
      let ov ← eval o X.env
      standAt apos.atName
      let (f, first) ← holding [ov] (getMethod ov m pl)
      callWith pos f first (backTo pos (starEach (e :: es) X.env)) (backToKw pos (keywordEach [] X.env))) := by rfl) :
    PE X (.Call (.Attribute o m apos) (e :: es) [] pos) (tMeth C m sp [] E ta t) := let ⟨fd, a, b, d⟩ := O.ex; pe_meth (pl := pl) he c hm a hr b .nil hx ha hst hpl ht
theorem pmeth0 {pl : Sem Bool} (O : Ok X.prog X.w X.K X.mg X.base CX k f ps sp) (he : PE X o ta) (c : Cls X.K C) (hm : Meth X.K C m f) (hr : Room k X.A) (hx : Passes CX X E)
    (ht : eval (.Call (.Attribute o m apos) [] [] pos) X.env = (do
      let ov ← eval o X.env
      standAt apos.atName
      let (f, first) ← holding [ov] (getMethod ov m pl)
      callWith pos f first (backTo pos (starEach [] X.env)) (backToKw pos (keywordEach [] X.env))) := by rfl) :
    PE X (.Call (.Attribute o m apos) [] [] pos) (tMeth C m sp [] E ta tNil) := let ⟨fd, a, b, d⟩ := O.ex; pe_meth0 (pl := pl) he c hm a hr b .nil hx ht
/-- a class or a def of the module by its name -/
theorem pgC (hm : X.mg x = some (.ref C)) (hg : Gl X x := by rfl) (hdb : (x == ("__debug__" : Str)) = false := by decide) : PE X (.Name x p) (tC (.ref C)) := pe_glob (v := .ref C) hg hm rfl hdb
theorem oOwn {op : Operator} (O : Ok X.prog X.w X.K X.mg X.base CX k f ps sp) (W : OwnOp X.K C op f) (hr : Room k X.A) (hx : Passes CX X E) : OpR X (binaryOp op) (rOwnOp C sp E) := let ⟨fd, a, b, c⟩ := O.ex; op_own W a b hr hx
theorem oOwnI {op : Operator} (O : Ok X.prog X.w X.K X.mg X.base CX k f ps sp) (W : OwnOpT X.K C op f "int") (hr : Room k X.A) (hx : Passes CX X E) : OpR X (binaryOp op) (rOwnOpI C sp E) := let ⟨fd, a, b, c⟩ := O.ex; op_ownI W a b hr hx
theorem oOwnR (O : Ok X.prog X.w X.K X.mg X.base CX k f ps sp) (W : OwnR X.K C .Mult f) (hr : Room k X.A) (hx : Passes CX X E) : OpR X (binaryOp .Mult) (rOwnR C sp E) := let ⟨fd, a, b, c⟩ := O.ex; op_ownR W a b hr hx
theorem uOwn (O : Ok X.prog X.w X.K X.mg X.base CX k f ps sp) (W : PySem.W.findIn X.K (.ref C) "__neg__" = some (some (.ref f)) ∧ PySem.W.isFn X.K (.ref f) = true) (hr : Room k X.A) (hx : Passes CX X E) : UnR X (unaryOp .USub) (rOwnNeg C sp E) := let ⟨fd, a, b, c⟩ := O.ex; un_own W.1 W.2 a b hr hx
theorem cAbs (O : Ok X.prog X.w X.K X.mg X.base CX k f ps sp) (W : PySem.W.findIn X.K (.ref C) "__abs__" = some (some (.ref f)) ∧ PySem.W.isFn X.K (.ref f) = true) (hr : Room (k + 1) X.A) (hx : Passes CX X E) : CallR X (.builtin "abs") (rOwnAbs C sp E) := let ⟨fd, a, b, c⟩ := O.ex; call_ownAbs W.1 W.2 a b hr hx
end
/-- a def that may raise: what its callees let out goes on -/
theorem px {X : Cx} {E : XK} {E₁ : Value → Shared → Prop} (hs : X.stack = X.env :: X.outer := by rfl) (hf : X.env.frame = some X.env.locals := by rfl) (hex : X.ex = [] := by rfl)
    (hx : X.xe = fun e s' => wpAny (model X.prog X.w) X.A (leaving X.env e) (fun _ s'' => CX X.prog X.w X.outer X.H_0 X.s_0 E e s'') E₁ s' := by rfl) : Passes (CX X.prog X.w) X E :=
  passes_call (takes_of hs hf hex hx) fun _ _ _ _ h => h
end L2

set_option maxRecDepth 100000
set_option maxHeartbeats 4000000
/-! # try with several clauses, each with or without a name -/
namespace L2
open PySem PySem.Spec PyProof.Rows
abbrev Cls3 : Type := Value × Option Nat × (Addr → Value → Option Addr → TS)
/-- the ends behind a suite whose name is slot i: it is gone -/
def Ends.gone (D : Ends) (i : Nat) : Ends := { nx := fun σ' H' => D.nx (σ'.set i none) H', rt := D.rt, bk := fun σ' H' => D.bk (σ'.set i none) H', ct := fun σ' H' => D.ct (σ'.set i none) H' }
def wAny (K : PySem.W.Frag) (Wo : WX) (D : Ends) : List Cls3 → WX
  | [] => Wo
  | (c, none, ts) :: r => fun cls d σ H => ∃ b, PySem.W.exmOne K cls c = some b ∧ (b = true → ∀ a, H a = none → ts a cls d D σ H) ∧ (b = false → wAny K Wo D r cls d σ H)
  | (c, some i, ts) :: r => fun cls d σ H => ∃ b, PySem.W.exmOne K cls c = some b ∧ (b = true → ∀ a, H a = none → ts a cls d (D.gone i) (σ.set i (some (.ref a))) H) ∧ (b = false → wAny K Wo D r cls d σ H)
inductive HdA (X : Cx) : List ExceptHandler → List Cls3 → Prop
  | nil : HdA X [] []
  | cons {x : Str} {c : Value} {ts : Addr → Value → Option Addr → TS} {b₀ : Stmt} {su : List Stmt} {np p2 : Pos} {hds : List ExceptHandler} {l : List Cls3} (hc : Names X x c)
      (hsu : ∀ (a : Addr) (oe : Obj) (cls : Value) (d : Option Addr) (pn : List (Addr × Obj)), Zc cls d oe → (∃ vs, oe.data = .fields vs) → PSs (X.suite a ((a, oe) :: pn)) (b₀ :: su) (ts a cls d)) (r : HdA X hds l) :
      HdA X (.ExceptHandler (some (.Name x np)) none (b₀ :: su) p2 :: hds) ((c, none, ts) :: l)
  | as {x n : Str} {i : Nat} {c : Value} {ts : Addr → Value → Option Addr → TS} {b₀ : Stmt} {su : List Stmt} {np p2 : Pos} {hds : List ExceptHandler} {l : List Cls3} (hc : Names X x c) (hi : X.N[i]? = some n) (hln : X.env.kindOf n = some .local)
      (hsu : ∀ (a : Addr) (oe : Obj) (cls : Value) (d : Option Addr) (pn : List (Addr × Obj)), Zc cls d oe → (∃ vs, oe.data = .fields vs) → PSs (X.suite a ((a, oe) :: pn)) (b₀ :: su) (ts a cls d)) (r : HdA X hds l) :
      HdA X (.ExceptHandler (some (.Name x np)) (some n) (b₀ :: su) p2 :: hds) ((c, some i, ts) :: l)
section
variable {X : Cx} {body : List Stmt} {h₀ : ExceptHandler} {hds : List ExceptHandler} {l : List Cls3} {pos : Pos} {tb : WX → TS} {Wo : WX}
theorem ps_try_any (hs : X.stack = X.env :: X.outer) (hf : X.env.frame = some X.env.locals) (hN : X.N.Nodup) (tk : Takes X Wo)
    (hb : ∀ (W : WX) (pn : List (Addr × Obj)) (xe : Value → Shared → Prop), Takes (X.tr pn xe) W → PassesOwn (model X.prog X.w) X.A X.env xe → PSs (X.tr pn xe) body (tb W))
    (hh : HdA X (h₀ :: hds) l) : PS X (.Try body (h₀ :: hds) [] [] pos) (fun D σ H => tb (wAny X.K Wo D l) D σ H) := by
  refine ⟨fun pins s σ H D I h => ?_⟩
  have ok := I.ok
  have hfr : X.A.frames = some (X.env :: X.outer) := by rw [ok.frames, hs]
  refine wpAny_Try_except ?_
  refine wpAny_mono ((hb (wAny X.K Wo D l) (X.pn ++ pins) (fun e s₁ => wpAny (model X.prog X.w) X.A (noteFrame e X.env) (fun _ s₂ => wpAny (model X.prog X.w) X.A (setFlight e none) (fun _ s₃ =>
    wpAny (model X.prog X.w) X.A (handleBy e X.env (h₀ :: hds)) (SP X pins D) X.xe s₃) X.xe s₂) X.xe s₁) (fun u s' xx => ?_) PassesOwn.looking).run [] s σ H D (I.toTry _) h) (fun f s1 hsp => ?_) (fun e s1 he => he)
  · obtain ⟨a, B, sI, pins', σ', H', cls, d, rfl, J', nb, up, sky, na, os, ag, w⟩ := xx
    have J : Inv X pins σ' H' sI := J'.ofTry ok
    have sk2 : Sky B (X.env :: X.outer) a (Zc cls d) X.env.locals s'.heap := by rw [← hs]; exact sky
    show wpAny (model X.prog X.w) X.A (noteFrame (.ref a) X.env) _ _ _
    refine Sky.land Zc.steady hfr hf sk2 fun h3 fl3 up3 => ?_
    have J3 : Inv X pins σ' H' { s' with heap := h3 } := J.landed nb fl3.1 (up.trans up3) os ag
    obtain ⟨oe3, vs3, he3, hz3, hd3⟩ := fl3.there
    have nfr : a ∉ frs (X.env :: X.outer) := fun hm => by
      obtain ⟨_, o', e', hnf⟩ := fl3.2.2.1.mem hm
      rw [he3] at e'; cases e'
      exact hnf _ hd3
    have nL : a ≠ X.env.locals := fun z => nfr (List.mem_filterMap.mpr ⟨X.env, List.mem_cons_self, by rw [hf, z]⟩)
    have nF : a ∉ X.fs := fun hm => by
      obtain ⟨e, he, q⟩ := List.mem_filterMap.mp hm
      exact nfr (List.mem_filterMap.mpr ⟨e, List.mem_cons_of_mem _ he, q⟩)
    have S3 := J3.suite he3 hd3 na nL nF
    have LT : PySem.W.Looks (model X.prog X.w) h3 (typeOf (.ref a)) cls := fun A Q E s k q => wpAny_typeOf_ref (k _ _ he3) (by rw [hz3.1]; exact q)
    have test : ∀ {x : Str} {np : Pos} {c : Value} {Q : Value → Shared → Prop} {E : Value → Shared → Prop}, Names X x c → Q c { s' with heap := h3 } → wpAny (model X.prog X.w) (X.A.mark (some (.ref a))) (eval (.Name x np) X.env) Q E { s' with heap := h3 } := fun {x np c Q E} hc q => by
      obtain ⟨hg, hdbg, hm | ⟨hm, hv, hnn⟩⟩ := hc
      · exact ld_glob (X := X.suite a ((a, oe3) :: (X.pn ++ pins))) S3 hg hm q hdbg
      · exact ld_blt (X := X.suite a ((a, oe3) :: (X.pn ++ pins))) S3 hg hm hv q hnn hdbg
    have go : ∀ {hds' : List ExceptHandler} {l' : List Cls3}, HdA X hds' l' → wAny X.K Wo D l' cls d σ' H' →
        wpAny (model X.prog X.w) X.A (handleBy (.ref a) X.env hds') (SP X pins D) X.xe { s' with heap := h3 } := by
      intro hds' l' hk
      induction hk with
      | nil =>
        intro w
        refine wpAny_handleBy_nil ?_
        obtain ⟨k1, k2, k3, oe, vs, T, oT, ts', he, hz, hd, h1, hr⟩ := id fl3
        unfold PySem.passOn
        refine wpAny_bind (wpAny_field he hd h1 ?_)
        rw [if_neg (show ¬ ((Value.ref T == Value.none) = true) from by simp)]
        have fin : wpAny (model X.prog X.w) X.A (setFlight (.ref a) X.env.frame) (fun _ s4 => wpAny (model X.prog X.w) X.A (throw (.ref a) : Sem Flow) (SP X pins D) X.xe s4) X.xe { s' with heap := h3 } := by
          rw [hf]
          refine HandSPX.setFlight_upZ fl3 fun h4 hh4 up4 => wpAny_throw (tk _ _ ?_)
          exact ⟨a, B, sI, pins, σ', H', cls, d, rfl, J, nb, (up.trans up3).trans up4, .inr (.inr (by rw [hs]; exact hh4)), na, os, ag, w⟩
        first
          | exact wpAny_bind (wpAny_pure (wpAny_bind fin))
          | exact wpAny_bind fin
      | @cons x c ts b₀ suite np pos' hds2 l2 hc hsu r ih =>
        intro w
        obtain ⟨b, hb1, hyes, hno⟩ := w
        refine wpAny_handleBy_cons (codeAny_handlers_test ?_) (by intro q; cases q)
        refine test hc ((PySem.W.exm_one (M := model X.prog X.w) (J3.kIn) LT hb1).here ?_)
        cases b with
        | true =>
          refine codeAny_handlers_suite ?_
          refine HandSPX.lands_againZ fl3 fun h4 fl4 up4 => ?_
          have J4 : Inv X pins σ' H' { s' with heap := h4 } := J.landed nb fl4.1 ((up.trans up3).trans up4) os ag
          obtain ⟨oe4, vs4, he4, hz4, hd4⟩ := fl4.there
          have S4 := J4.suite he4 hd4 na nL nF
          refine wpAny_mono ((hsu a oe4 cls d (X.pn ++ pins) hz4 ⟨_, hd4⟩).run [] _ _ H' _ S4 (hyes rfl a na)) (fun f s6 hsp => ?_) (fun _ _ z => False.elim z)
          cases f with
          | next => obtain ⟨σ6, H6, S6, q6⟩ := hsp; exact ⟨_, _, S6.unsuite ok, q6⟩
          | brk => obtain ⟨σ6, H6, S6, q6⟩ := hsp; exact ⟨_, _, S6.unsuite ok, q6⟩
          | cont => obtain ⟨σ6, H6, S6, q6⟩ := hsp; exact ⟨_, _, S6.unsuite ok, q6⟩
          | ret u => obtain ⟨v6, σ6, H6, S6, r6, q6⟩ := hsp; exact ⟨_, _, _, S6.unsuite ok, r6, q6⟩
        | false =>
          show wpAny _ X.A (handleBy (.ref a) X.env hds2) _ _ _
          exact ih (hno rfl)
      | @as x n i c ts b₀ suite np pos' hds2 l2 hc hi hln hsu r ih =>
        intro w
        obtain ⟨b, hb1, hyes, hno⟩ := w
        refine wpAny_handleBy_cons (codeAny_handlers_test ?_) (by intro q; cases q)
        refine test hc ((PySem.W.exm_one (M := model X.prog X.w) (J3.kIn) LT hb1).here ?_)
        cases b with
        | true =>
          refine codeAny_handlers_suite_as ?_
          refine HandSPX.lands_againZ fl3 fun h4 fl4 up4 => ?_
          have J4 : Inv X pins σ' H' { s' with heap := h4 } := J.landed nb fl4.1 ((up.trans up3).trans up4) os ag
          obtain ⟨oe4, vs4, he4, hz4, hd4⟩ := fl4.there
          have S4 := J4.suite he4 hd4 na nL nF
          refine store_ok (X := X.suite a ((a, oe4) :: (X.pn ++ pins))) (v := .ref a) S4 hN hi (.inl hln) rfl (fun s5 S5 => ?_) (.inr hln)
          refine wpAny_mono ((hsu a oe4 cls d (X.pn ++ pins) hz4 ⟨_, hd4⟩).run [] s5 _ H' _ S5 (hyes rfl a na)) (fun f s6 hsp => ?_) (fun _ _ z => False.elim z)
          have end_ : ∀ {σ6 : St} {H6 : Hp} {Q : Shared → Prop}, Inv (X.suite a ((a, oe4) :: (X.pn ++ pins))) [] σ6 H6 s6 → (∀ s7, Inv X pins (σ6.set i none) H6 s7 → Q s7) →
              wpAny (model X.prog X.w) X.A (do bindName X.env n .none; unbindBehindTheSuite X.env n pos') (fun _ s7 => Q s7) X.xe s6 := fun {σ6 H6 Q} S6 hq => gone_ok (S6.unsuite ok) hN hi hln hq
          cases f with
          | next => obtain ⟨σ6, H6, S6, q6⟩ := hsp; exact end_ S6 fun s7 J7 => ⟨_, _, J7, q6⟩
          | brk => obtain ⟨σ6, H6, S6, q6⟩ := hsp; exact end_ S6 fun s7 J7 => ⟨_, _, J7, q6⟩
          | cont => obtain ⟨σ6, H6, S6, q6⟩ := hsp; exact end_ S6 fun s7 J7 => ⟨_, _, J7, q6⟩
          | ret u => obtain ⟨v6, σ6, H6, S6, r6, q6⟩ := hsp; exact end_ S6 fun s7 J7 => ⟨_, _, _, J7, r6, q6⟩
        | false =>
          show wpAny _ X.A (handleBy (.ref a) X.env hds2) _ _ _
          exact ih (hno rfl)
    exact go hh w
  · cases f with
    | next => obtain ⟨σ', H', J', q⟩ := hsp; exact wpAny_execs_nil ⟨σ', H', J'.ofTry ok, q⟩
    | brk => obtain ⟨σ', H', J', q⟩ := hsp; exact ⟨σ', H', J'.ofTry ok, q⟩
    | cont => obtain ⟨σ', H', J', q⟩ := hsp; exact ⟨σ', H', J'.ofTry ok, q⟩
    | ret u => obtain ⟨v, σ', H', J', r, q⟩ := hsp; exact ⟨v, σ', H', J'.ofTry ok, r, q⟩
end
end L2

set_option maxRecDepth 100000
set_option maxHeartbeats 4000000
/-! # isinstance(e, C) in a suite, e an error with a dict -/
namespace EI
open PySem PySem.W PySem.Spec PySem.Calls PyProof.Rows
theorem cls_of_exc {prog : Program} {w : World} {A : Around} {E : Value → Shared → Prop} {s : Shared} {K : Frag} {x D : Addr} {ox od : Obj} {Q : Option Value → Shared → Prop} (C : L2.ExcC K D) (X : K.In s.heap) (I : InstAt s.heap x ox D (some od)) (h : Q (some (.ref D)) { s with toks := s.toks + 1 }) :
    wpAny (model prog w) A (getAttr? (.ref x) "__class__") Q E s := by
  have hf : findObj K D (some od) "__class__" = some (.bind (.builtin "getset_descriptor.__get__") (.builtin "object.__class__")) := findObj_data (by obtain ⟨cd, hc, _⟩ := any_some C.hd; rw [hc]; rfl) C.ha C.hn C.ht
  obtain ⟨hp, g, d, t, os⟩ := s
  have L0 := I.type (M := model prog w)
  have L1 := looks_findIn (M := model prog w) X C.hg
  have L2 := looks_findIn (M := model prog w) X C.hk
  have L3 := looks_find (M := model prog w) X I hf
  have sub : Looks (model prog w) hp (isInstance (.ref x) (.type "BaseException")) true := L0.andThen (looks_subIn X C.hs)
  have n2 : (Value.builtin "BaseException.__getattribute__" == Value.builtin "object.__getattribute__") = false := by decide +kernel
  have n1 : (onTheHeap (Value.ref D) && Value.builtin "BaseException.__getattribute__" == Value.builtin "object.__getattribute__") = false := by rw [n2]; rfl
  unfold getAttr? getAttrBy? getAttrBy
  refine wpAny_bind (wpAny_mkText (wpAny_bind (wpAny_attempt (wpAny_holding (wpAny_bind (L0.at (wpAny_bind (L1.at (by
    show wpAny _ _ (if (onTheHeap (Value.ref D) && Value.builtin "BaseException.__getattribute__" == Value.builtin "object.__getattribute__") = true then _ else _) _ _ _
    rw [n1, if_neg Bool.false_ne_true]
    unfold getAttrByItsOwn hookBefore
    refine wpAny_bind ?_
    rw [if_pos (show onTheHeap (Value.ref D) = true from rfl)]
    refine L2.at (wpAny_bind (wpAny_attempt (wpAny_holding ?_)))
    unfold callGetattribute
    rw [show (false && onTheHeap (Value.builtin "BaseException.__getattribute__")) = false from rfl, if_neg Bool.false_ne_true]
    unfold boundAndCalled
    rw [PySem.F.excAttr_ValueError.ga.bind (.ref x)]
    refine wpAny_bind (wpAny_pure ?_)
    show wpAny _ _ (call (.builtin "BaseException.__getattribute__") [.ref x, .str "__class__" t]) _ _ _
    refine wpAny_call (codeAny_call_builtin PySem.F.excAttr_ValueError.ga.plain PySem.F.entry_bexc_ga (@check_slot (model prog w) _ _ ⟨hp, g, d, t + 1, os⟩ "BaseException.__getattribute__" "BaseException" "__getattribute__" (.ref x) [.str "__class__" t] [] _ (by decide +kernel) (by decide +kernel) sub (PySem.F.args_bexc_ga (.ref x) (.str "__class__" t)) ?_))
    unfold Builtin.«object.__getattribute__»
    refine wpAny_bind (wpAny_of_eq (a := ((Value.ref x : Value), [Value.str "__class__" t])) (by first | rfl | (simp only [slotArgs]; rfl)) ?_)
    refine wpAny_bind (wpAny_pure (wpAny_bind (L0.at (wpAny_bind (L3.at ?_)))))
    show wpAny _ _ (holding [Value.builtin "object.__class__"] (call (.builtin "getset_descriptor.__get__") [.builtin "object.__class__", .ref x, .ref D]) >>= ret) _ _ _
    refine wpAny_bind (wpAny_holding (wpAny_call (class_get (s := ⟨hp, g, d, t + 1, os⟩) (ox := ox) (od := some od) X I C.hm ?_)))
    refine wpAny_pure ?_
    show wpAny _ _ (handedOut (.ref D)) _ _ _
    rw [handedOut_of (v := .ref D) rfl]
    first
      | exact wpAny_pure (wpAny_pure h)
      | exact wpAny_pure h
      | exact wpAny_pure (wpAny_bind (wpAny_pure (wpAny_pure h))))))))))))
theorem kit_exc {K : Frag} {x D : Addr} {ox od : Obj} (C : L2.ExcC K D) : KitX K (.ref x) (.ref D) (fun h => InstAt h x ox D (some od)) where
  ty := fun _ _ _ I => I.type
  it := fun _ _ X _ => by
    obtain ⟨cdD, hcD, _⟩ := any_some C.hd
    unfold clsIn at hcD
    split at hcD
    · rename_i c' d' cd' sl' ho
      intro A' Q' E' s' k q
      unfold isType loadHead
      exact wpAny_bind (wpAny_loadPart (k _ _ (X _ _ ho)) (wpAny_pure q))
    · cases hcD
  ne := fun h tp dd its n sl X htp => by
    obtain ⟨cdD, hcD, _⟩ := any_some C.hd
    refine Bool.eq_false_iff.mpr fun q => ?_
    have e : D = tp := Value.ref.inj (beq_iff_eq.mp q)
    subst e
    unfold clsIn at hcD
    split at hcD
    · rename_i c' d' cd' sl' ho
      cases (X _ _ ho).symm.trans htp
    · cases hcD
  ca := fun X I k => cls_of_exc C X I k
end EI
namespace L2
open PySem PySem.Spec PyProof.Rows
/-- isinstance(e, c), e the suite's error, with a dict -/
def rIsD (K : PySem.W.Frag) (D a : Addr) (d : Option Addr) : List V → Hp → VK → Prop := fun xs H Q => ∃ (c : V) (cv : Value) (b : Bool) (dd : Addr) (fs : List (Str × V)), xs = [.ref a, c] ∧ (∀ u, RelV c u → u = cv) ∧ d = some dd ∧ H dd = some (.xd fs) ∧ PySem.W.kitOne K (.ref D) cv = some b ∧ Q (.bl b) H
theorem call_isD {X : Cx} {a D : Addr} {d : Option Addr} {oe : Obj} {pn : List (Addr × Obj)} {cls : Value} (C : ExcC X.K D) (hz : Zc cls d oe) (hf : ∃ vs, oe.data = .fields vs) :
    CallR (X.suite a ((a, oe) :: pn)) (.builtin "isinstance") (fun xs H Q => cls = .ref D ∧ rIsD X.K D a d xs H Q) := by
  intro pins s σ H xs us Q I r h
  obtain ⟨rfl, c, cv, b, dd, fs, rfl, hcv, rfl, ea, e, q⟩ := h
  cases r with
  | cons rx rr =>
  cases rr with
  | cons rt rr =>
  cases rr
  cases rx
  have ec := hcv _ rt
  subst ec
  obtain ⟨hget, _⟩ := I.pin (a, oe) (List.mem_append.mpr (.inl List.mem_cons_self))
  obtain ⟨vs, hv⟩ := hf
  obtain ⟨mA, hns, hr⟩ := (show ObjOk X.prog X.w H s.heap dd (.xd fs) from I.hok dd _ ea)
  obtain ⟨od, ho, _⟩ := lookIn_ns hns
  have J : PySem.W.InstAt s.heap a oe D (some od) := ⟨hget, hz.1, by unfold PySem.W.notCls; rw [hv] <;> rfl, by rw [hz.2]; exact ho⟩
  exact PySem.W.kia_one (EI.kit_exc C) I.kIn J e (fun z => nomatch z) fun tk => ⟨.bl b, H, I.kept (t' := tk) fun _ _ z => z, rfl, q⟩
end L2

set_option maxRecDepth 100000
set_option maxHeartbeats 4000000
namespace EF
open PySem PySem.W PySem.Calls PyProof.Rows He He5 HX
def clsB (K : Frag) (D : Addr) : Bool := eqO (findIn K (.ref D) "__class__") (some (some (.builtin "object.__class__"))) && (eqO (specialIn K (.builtin "object.__class__") "__get__") (some (some (.builtin "getset_descriptor.__get__"))) && (decide (takesIn K (.builtin "object.__class__") = some true) && decide (mroIn K D (.type "object") = some true)))
structure ClsT (K : Frag) (D : Addr) : Prop where
  ha : findIn K (.ref D) "__class__" = some (some (.builtin "object.__class__"))
  hn : specialIn K (.builtin "object.__class__") "__get__" = some (some (.builtin "getset_descriptor.__get__"))
  ht : takesIn K (.builtin "object.__class__") = some true
  hm : mroIn K D (.type "object") = some true
theorem cls_ok {K : Frag} {D : Addr} (h : clsB K D = true) : ClsT K D := by
  obtain ⟨h1, h⟩ := ba h
  obtain ⟨h2, h⟩ := ba h
  obtain ⟨h3, h4⟩ := ba h
  exact ⟨eqO_ok h1, eqO_ok h2, of_decide_eq_true h3, of_decide_eq_true h4⟩
/-- an error's class: its fields are read, isinstance asks it -/
def excB (K : Frag) (D : Addr) : Bool := L2.xfB K D && clsB K D
theorem exc_ok {K : Frag} {D : Addr} (h : excB K D = true) : L2.XfC K D ∧ L2.ExcC K D := by
  obtain ⟨h1, h2⟩ := ba h
  have x := L2.xfB_ok h1
  have c := cls_ok h2
  exact ⟨x, x.ga, x.gg, x.exC, x.hdC, c.ha, c.hn, c.ht, c.hm⟩
end EF

set_option maxRecDepth 100000
set_option maxHeartbeats 4000000
/-! # A classmethod with *numbers and a keyword: C.m(a, .., k = v) -/
namespace L2
open PySem PySem.Spec PyProof.Rows
abbrev SpS : Type := List V → List V → Hp → VK → XK → Prop
def FnS (P : Program) (w : World) (K : PySem.W.Frag) (mg : Str → Option Value) (base : Heap) (CX : CXT) (k : Nat) (f : Addr) (ks : List Str) (sp : SpS) : Prop :=
  ∀ (A : Around) (outer : List Env) (s : Shared) (H : Hp) (us ws : List Value) (vs zs : List V) (Q : VK) (E : XK), Room k A → Env0 P w K mg base A outer s H → Vals vs us → Vals zs ws → sp vs zs H Q E →
    codeAny (model P w) A (.call (.ref f) ⟨us, ks.zip ws⟩) (CR CX outer P w H s Q E) s
section
variable {X : Cx} {CX : CXT} {k : Nat} {C p g : Addr} {mc : Value} {sp : SpS} {E : XK} {o e : Expr} {es : List Expr} {kws : List Keyword} {ks : List Str} {f m : Str} {pos apos : Pos} {ta : TE} {t tk : TA} {pl : Sem Bool}
theorem run_cms {pins : List (Addr × Obj)} {σ : L2.St} {H : Hp} {s : Shared} {q : Addr} {Q : VK} {us ws : List Value} {vs zs : List V} (F : FnS X.prog X.w X.K X.mg X.base CX k g ks sp) (hr : Room k X.A) (hx : Passes CX X E) (I : Inv X ((q, PySem.W.methodObj (.ref g) (.ref C)) :: pins) σ H s)
    (r : Vals vs us) (rz : Vals zs ws) (h : sp (.ref C :: vs) zs H Q E) : wpAny (model X.prog X.w) X.A (call (.ref q) us (ks.zip ws)) (EP X pins σ Q) X.xe s := by
  have z : wpAny (model X.prog X.w) X.A (call (.ref q) us (ks.zip ws)) (EP X ((q, PySem.W.methodObj (.ref g) (.ref C)) :: pins) σ Q) X.xe s := by
    refine wpAny_call (PySem.W.method_call (ClX.pin_at I) ?_)
    refine codeAny_mono (F X.A X.stack s H (.ref C :: us) ws (.ref C :: vs) zs Q E hr I.env0 (.cons rfl r) rz h) fun r s' hq => ?_
    cases r with
    | error e => exact hx _ σ H s e s' I hq
    | ok fl =>
      cases fl with
      | ret u => exact I.after hq
      | next => exact False.elim hq
      | brk => exact False.elim hq
      | cont => exact False.elim hq
  exact thn z fun _ _ y => ClX.unpinE y
def tCms (C : Addr) (sp : SpS) (E : XK) (ta : TE) (t tk : TA) : TE := fun σ H Q => ta σ H fun x H1 => x = .ref C ∧ t σ H1 fun vs H2 => tk σ H2 fun zs H3 => sp (.ref C :: vs) zs H3 Q E
theorem pe_cms (he : PE X o ta) (r : ClX.CRead X.K C mc) (c : ClX.CMet X.K C mc m p g) (F : FnS X.prog X.w X.K X.mg X.base CX k g ks sp) (hr : Room k X.A) (hx : Passes CX X E) (ha : PA X (e :: es) t) (hk : PK X kws tk)
    (hst : starEach (e :: es) X.env = (false, eval e X.env) :: starEach es X.env := by rfl) (hall : (backToKw pos (keywordEach kws X.env)).all (·.1.isSome) = true := by rfl) (hks : (backToKw pos (keywordEach kws X.env)).filterMap (·.1) = ks := by rfl)
    (hpl : ((backTo pos (starEach (e :: es) X.env)).any (·.1) || (backToKw pos (keywordEach kws X.env)).any (·.1.isNone)) = false := by rfl)
    (ht : eval (.Call (.Attribute o m apos) (e :: es) kws pos) X.env = (do
      let ov ← eval o X.env
      standAt apos.atName
      let (f, first) ← holding [ov] (getMethod ov m pl)
      callWith pos f first (backTo pos (starEach (e :: es) X.env)) (backToKw pos (keywordEach kws X.env))) := by rfl) :
    PE X (.Call (.Attribute o m apos) (e :: es) kws pos) (tCms C sp E ta t tk) := by
  refine ⟨fun pins s σ H Q I h => ?_⟩
  refine PySem.W.methodCall_KW (pl := pl) (thn (he.run pins s σ H _ I h) fun u s1 ⟨x, H1, I1, rx, ex, q⟩ => ?_) ht
  subst ex
  obtain rfl : u = Value.ref C := rx
  refine ClX.getmethcm_ok I1 r c fun s2 I2 => ?_
  refine PySem.W.callWith_of (P := PySem.W.MethP X.K s1.heap.objs.size g (.ref C)) hpl (PySem.W.keeps_M c.fi) (evalArgs_kw2 hall (thn (ha.run pos _ s2 σ H1 _ I2 q) fun us s3 ⟨vs, H2, I3, rv, q2⟩ => ?_) hst)
  refine thn (hk.run pos _ s3 σ H2 _ I3 q2) fun ws s4 ⟨zs, H3, I4, rz, q3⟩ => ⟨⟨ClX.pin_at I4, I4.kIn⟩, ?_⟩
  rw [hks]
  exact run_cms F hr hx I4 rv rz q3
theorem pe_cms0 (he : PE X o ta) (r : ClX.CRead X.K C mc) (c : ClX.CMet X.K C mc m p g) (F : FnS X.prog X.w X.K X.mg X.base CX k g ks sp) (hr : Room k X.A) (hx : Passes CX X E) (hk : PK X kws tk)
    (hall : (backToKw pos (keywordEach kws X.env)).all (·.1.isSome) = true := by rfl) (hks : (backToKw pos (keywordEach kws X.env)).filterMap (·.1) = ks := by rfl)
    (hpl : ((backTo pos (starEach [] X.env)).any (·.1) || (backToKw pos (keywordEach kws X.env)).any (·.1.isNone)) = false := by rfl)
    (ht : eval (.Call (.Attribute o m apos) [] kws pos) X.env = (do
      let ov ← eval o X.env
      standAt apos.atName
      let (f, first) ← holding [ov] (getMethod ov m pl)
      callWith pos f first (backTo pos (starEach [] X.env)) (backToKw pos (keywordEach kws X.env))) := by rfl) :
    PE X (.Call (.Attribute o m apos) [] kws pos) (tCms C sp E ta tNil tk) := by
  refine ⟨fun pins s σ H Q I h => ?_⟩
  refine PySem.W.methodCall_KW (pl := pl) (thn (he.run pins s σ H _ I h) fun u s1 ⟨x, H1, I1, rx, ex, q⟩ => ?_) ht
  subst ex
  obtain rfl : u = Value.ref C := rx
  refine ClX.getmethcm_ok I1 r c fun s2 I2 => ?_
  refine PySem.W.callWith_of (P := PySem.W.MethP X.K s1.heap.objs.size g (.ref C)) hpl (PySem.W.keeps_M c.fi) (evalArgs_kw2_nil hall ?_)
  refine thn (hk.run pos _ s2 σ H1 _ I2 q) fun ws s4 ⟨zs, H3, I4, rz, q3⟩ => ⟨⟨ClX.pin_at I4, I4.kIn⟩, ?_⟩
  rw [hks]
  exact run_cms (us := []) F hr hx I4 .nil rz q3
end
/-! ### def m(cls, *pv, kx=default) -/
section
variable {P : Program} {w : World} {K : PySem.W.Frag} {mg : Str → Option Value} {base : Heap} {CX : CXT} {k : Nat} {f : Addr} {x qual p1 kx pv : Str} {params : Arguments} {body : List Stmt} {scope : Scope} {N : List Str} {fd : FuncData} {dv : V} {sp : Sp}
theorem fnS_star1 (F : FunD K x qual params body scope [] [(kx, dv)] f fd) (S : FnScope N [p1, kx, pv] scope) (hCX : StX.CXUp CX)
    (hb : ∀ (kV doc pm : Value) (an : Option Addr) (cdv ct : Value) (c v : Value) (rest : List Value), bindArgs (PySem.W.fnOf x qual params body scope .none kV doc pm an cdv ct) ⟨c :: rest, [(kx, v)]⟩ = (newTuple rest >>= fun t => pure [(p1, c), (kx, v), (pv, t)]))
    (hbody : ∀ (cdv : Value) (A : Around) (outer : List Env) (s : Shared) (H : Hp) (vs : List V) (Q : VK) (E : XK), Room k (A.deeper (envOfC qual scope s.heap.objs.size f cdv)) → sp vs H Q E →
      ∃ t, PSs (cxOf CX P w K mg base N qual scope f cdv A outer s H E) body t ∧ t { nx := fun _ H' => Q .non H', rt := Q } (start N vs) H) :
    FnS P w K mg base CX (k + 1) f [kx] (fun vs zs H Q E => ∃ c rest v, vs = c :: rest ∧ zs = [v] ∧ rest.length ≤ sizeLine ∧ ∀ p, H p = Option.none → sp [c, v, V.ref p] (upd H p (.tup rest)) Q E) := by
  intro A outer s H us ws vs zs Q E hr e0 r rz hsp
  obtain ⟨c, rest, v, rfl, rfl, hz, hq⟩ := hsp
  obtain ⟨oc, od, dV, kV, doc, pm, an, cdv, ct, osl, rfl, lk, hcd, hD, _⟩ := F.ex
  have e : dV = .none := by
    rcases hD with ⟨_, e⟩ | ⟨e, _⟩
    · exact e
    · exact absurd rfl e
  subst e
  cases r with
  | cons rc rr =>
  rename_i uc ur
  cases rz with
  | cons rv rn =>
  cases rn
  rename_i uv
  have hn : H s.heap.objs.size = Option.none := e0.hok.fresh (Nat.le_refl _)
  have hl2 : ur.length ≤ sizeLine := by rw [← rr.length]; exact hz
  refine StX.run_bnd lk hcd S hr e0 (G := fun xs H2 => ∃ p, H p = Option.none ∧ xs = [c, v, V.ref p] ∧ H2 = upd H p (.tup rest)) (fun A' Ex Q' h => ?_) fun s2 H2 xs ⟨p, hp, ex, eH⟩ hr' => ?_
  · rw [show ([kx].zip [uv] : List (Str × Value)) = [(kx, uv)] from rfl, hb kV doc pm an cdv ct uc uv ur]
    refine wpAny_bind (wpAny_newTuple (wpAny_pure ?_) hl2)
    have new : ObjOk P w (upd H s.heap.objs.size (.tup rest)) (s.heap.push ({ cls := .type "tuple", data := .seq ur.toArray } : Obj)) s.heap.objs.size (.tup rest) := ⟨hz, ur, rr, ⟨_, Heap.get?_push_size _ rfl, rfl, _, rfl⟩⟩
    have un := StX.un_laid (fs := frs outer) (s := s) (o := ({ cls := .type "tuple", data := .seq ur.toArray } : Obj)) (u := .tup rest) hn
    exact h _ _ [c, v, V.ref s.heap.objs.size] [uc, uv, Value.ref s.heap.objs.size] (StX.env0_laid e0 new) un rfl (fun e s' => hCX outer s H _ _ E e s' un (fun b o q => Heap.get?_push_of_some _ q) rfl) (.cons rc (.cons rv (.cons rfl .nil))) rfl ⟨_, hn, rfl, rfl⟩
  · subst ex eH
    exact hbody cdv A outer s2 _ _ Q E hr' (hq p hp)
theorem fnS_star0 (F : FunD K x qual params body scope [] [(kx, dv)] f fd) (S : FnScope N [p1, kx, pv] scope) (hCX : StX.CXUp CX)
    (hb : ∀ (D : Addr) (doc pm : Value) (an : Option Addr) (cdv ct : Value) (c v : Value) (rest : List Value), ∃ (β γ : Type) (k1 : Option Value → Sem β) (k2 : β → Sem γ) (k3 : γ → Sem (List (Str × Value))) (a : β),
      bindArgs (PySem.W.fnOf x qual params body scope .none (.ref D) doc pm an cdv ct) ⟨c :: rest, []⟩ = ((nsGet D kx >>= k1) >>= k2) >>= k3 ∧ k1 (some v) = pure a ∧ (k2 a >>= k3) = (newTuple rest >>= fun t => pure [(p1, c), (kx, v), (pv, t)]))
    (hbody : ∀ (cdv : Value) (A : Around) (outer : List Env) (s : Shared) (H : Hp) (vs : List V) (Q : VK) (E : XK), Room k (A.deeper (envOfC qual scope s.heap.objs.size f cdv)) → sp vs H Q E →
      ∃ t, PSs (cxOf CX P w K mg base N qual scope f cdv A outer s H E) body t ∧ t { nx := fun _ H' => Q .non H', rt := Q } (start N vs) H) :
    FnS P w K mg base CX (k + 1) f [] (fun vs zs H Q E => ∃ c rest, vs = c :: rest ∧ zs = [] ∧ rest.length ≤ sizeLine ∧ ∀ p, H p = Option.none → sp [c, dv, V.ref p] (upd H p (.tup rest)) Q E) := by
  intro A outer s H us ws vs zs Q E hr e0 r rz hsp
  obtain ⟨c, rest, rfl, rfl, hz, hq⟩ := hsp
  obtain ⟨oc, od, dV, kV, doc, pm, an, cdv, ct, osl, rfl, lk, hcd, hD, hK⟩ := F.ex
  have e : dV = .none := by
    rcases hD with ⟨_, e⟩ | ⟨e, _⟩
    · exact e
    · exact absurd rfl e
  subst e
  rcases hK with e | ⟨D, rfl, hq0⟩
  · cases e
  obtain ⟨uv, hns, rv⟩ := hq0 (kx, dv) (List.mem_singleton.mpr rfl)
  cases rz
  cases r with
  | cons rc rr =>
  rename_i uc ur
  have hn : H s.heap.objs.size = Option.none := e0.hok.fresh (Nat.le_refl _)
  have hl2 : ur.length ≤ sizeLine := by rw [← rr.length]; exact hz
  have KX : K.In s.heap := e0.mod.kin.keeps fun b o e => (e0.bs b o e).1
  refine StX.run_bnd lk hcd S hr e0 (G := fun xs H2 => ∃ p, H p = Option.none ∧ xs = [c, dv, V.ref p] ∧ H2 = upd H p (.tup rest)) (fun A' Ex Q' h => ?_) fun s2 H2 xs ⟨p, hp, ex, eH⟩ hr' => ?_
  · obtain ⟨β, γ, k1, k2, k3, a, e1, e2, e3⟩ := hb D doc pm an cdv ct uc uv ur
    rw [show (([] : List Str).zip ([] : List Value)) = [] from rfl, e1, bind_assoc]
    refine wpAny_bind (wpAny_bind ((PySem.W.looks_nsIn KX hns).here ?_))
    rw [e2]
    refine wpAny_pure ?_
    rw [e3]
    refine wpAny_bind (wpAny_newTuple (wpAny_pure ?_) hl2)
    have new : ObjOk P w (upd H s.heap.objs.size (.tup rest)) (s.heap.push ({ cls := .type "tuple", data := .seq ur.toArray } : Obj)) s.heap.objs.size (.tup rest) := ⟨hz, ur, rr, ⟨_, Heap.get?_push_size _ rfl, rfl, _, rfl⟩⟩
    have un := StX.un_laid (fs := frs outer) (s := s) (o := ({ cls := .type "tuple", data := .seq ur.toArray } : Obj)) (u := .tup rest) hn
    exact h _ _ [c, dv, V.ref s.heap.objs.size] [uc, uv, Value.ref s.heap.objs.size] (StX.env0_laid e0 new) un rfl (fun e s' => hCX outer s H _ _ E e s' un (fun b o q => Heap.get?_push_of_some _ q) rfl) (.cons rc (.cons rv (.cons rfl .nil))) rfl ⟨_, hn, rfl, rfl⟩
  · subst ex eH
    exact hbody cdv A outer s2 _ _ Q E hr' (hq p hp)
end
end L2

set_option maxRecDepth 100000
set_option maxHeartbeats 4000000
namespace L2
open PySem PySem.Spec PyProof.Rows
/-- cls(e, ..), cls a local name that holds the class at C -/
def tMakeL (i : Nat) (C : Addr) (sp : Sp) (E : XK) (t : TA) : TE := fun σ H Q => σ[i]? = some (some (.ref C)) ∧ tMake C sp [] E t σ H Q
section
variable {X : Cx} {CX : CXT} {k i : Nat} {f C : Addr} {ps : List Str} {sp : Sp} {E : XK} {x : Str} {p pos : Pos} {e : Expr} {es : List Expr} {t : TA}
theorem pmkL (O : Ok X.prog X.w X.K X.mg X.base CX k f ps sp) (M : Mk X.K C f) (hr : Room (k + 1) X.A) (hN : X.N[i]? = some x) (hv : Vis X.env.scope x) (hx : Passes CX X E) (ha : PA X (e :: es) t) (hdb : (x == ("__debug__" : Str)) = false := by decide)  (hcd : (x == ("__classdict__" : Str)) = false := by decide)
    (he : starEach (e :: es) X.env = (false, eval e X.env) :: starEach es X.env := by rfl) (hpl : (backTo pos (starEach es X.env)).any (·.1) = false := by rfl) :
    PE X (.Call (.Name x p) (e :: es) [] pos) (tMakeL i C sp E t) := by
  obtain ⟨fd, F, hb, _⟩ := O.ex
  refine ⟨fun pins s σ H Q I h => ?_⟩
  obtain ⟨hs, h⟩ := h
  refine wpAny_Call_Name_kw (thn ((pe_var (pos := p) hN hv hdb hcd).run pins s σ H (fun v H1 => v = .ref C ∧ H1 = H) I ⟨.ref C, hs, rfl, rfl⟩) fun u s1 ⟨v, H1, I1, r1, q1⟩ => ?_)
  obtain ⟨rfl, rfl⟩ := q1
  cases r1
  refine PySem.W.callWith_K (h₀ := X.base) I.ok.mod.kin M.kp (thn (ha.run pos pins s1 σ _ _ I1 h) fun us s2 ⟨vs, H2, I2, r, q⟩ => ⟨I2.kIn, ?_⟩) he hpl
  exact run_make M F hr hb .nil hx I2 r q
end
end L2

set_option maxRecDepth 100000
set_option maxHeartbeats 4000000
/-! # calls and own operators in a try's body -/
namespace L2
open PySem PySem.Spec PyProof.Rows
section
variable {X : Cx} {CX : CXT} {k : Nat} {f C : Addr} {ps : List Str} {sp : Sp} {E : St → XK} {x : Str} {p pos : Pos} {e a b : Expr} {es : List Expr} {ta tb : TE} {t : TA} {op : Operator}
theorem pcS (O : Ok X.prog X.w X.K X.mg X.base CX k f ps sp) (hr : Room k X.A) (hm : X.mg x = some (.ref f)) (hx : ∀ σ, PassesAt CX X σ (E σ)) (ha : PA X (e :: es) t) (hg : Gl X x := by rfl) (hdb : (x == ("__debug__" : Str)) = false := by decide)
    (he : starEach (e :: es) X.env = (false, eval e X.env) :: starEach es X.env := by rfl) (hpl : (backTo pos (starEach es X.env)).any (·.1) = false := by rfl) :
    PE X (.Call (.Name x p) (e :: es) [] pos) (tCallS sp E t) := let ⟨fd, a, b, c⟩ := O.ex; pe_callS a hr hg hm c b hx ha hdb he hpl
/-- a op n in a try's body -/
def tOwnIS (C : Addr) (sp : Sp) (E : St → XK) (ta tb : TE) : TE := fun σ H Q => ta σ H fun x H1 => tb σ H1 fun y H2 => rOwnOpI C sp (E σ) x y H2 Q
theorem peOwnIS (O : Ok X.prog X.w X.K X.mg X.base CX k f ps sp) (W : OwnOpT X.K C op f "int") (hr : Room k X.A) (hx : ∀ σ, PassesAt CX X σ (E σ)) (ha : PE X a ta) (hb : PE X b tb) : PE X (.BinOp a op b pos) (tOwnIS C sp E ta tb) := by
  obtain ⟨fd, F, bn, _⟩ := O.ex
  refine ⟨fun pins s σ H Q I h => wpAny_BinOp (binT ha hb I h fun v u s2 x y H2 I2 rx ry q => ?_)⟩
  obtain ⟨a, dx, fs, n, rfl, rfl, ha, hsp⟩ := q
  cases rx
  obtain ⟨t, rfl⟩ := ry
  obtain ⟨od, J⟩ := inst_of I2.hok ha
  obtain ⟨m, hF⟩ := I2.fr
  obtain ⟨rc, h1, h2⟩ := W.rev
  obtain ⟨fo, h3⟩ := W.tf
  obtain ⟨ro, h4⟩ := W.tr
  refine PySem.W.ksp_binT (T := "int") hF I2.ok.mod.kin J rfl W.first W.at_ W.fn h1 h2 h3 h4 W.sub (wpAny_mono (run_fnS F hr bn (hx σ) I2 (us := [.ref a, .int n t]) (vs := [.ref a, .int n]) (.cons rfl (.cons ⟨t, rfl⟩ .nil)) hsp) (fun r s' q => back_of q) fun _ _ z => z)
end
end L2

set_option maxRecDepth 100000
set_option maxHeartbeats 4000000
/-! # Words of every law: all but the pool, data that are alike, errors that are due -/
namespace L2
open PySem PySem.Spec PyProof.Rows
/-- all but p is as it was -/
def But (p : Addr) (H H' : Hp) : Prop := ∀ b o, b ≠ p → H b = some o → H' b = some o
theorem But.refl (p : Addr) (H : Hp) : But p H H := fun _ _ _ h => h
theorem But.trans {p : Addr} {H H1 H2 : Hp} (a : But p H H1) (b : But p H1 H2) : But p H H2 := fun c o n h => b c o n (a c o n h)
theorem But.set {p : Addr} {H : Hp} {o : HO} : But p H (upd H p o) := fun b u n h => by rw [upd_ne n]; exact h
theorem But.of {p : Addr} {H H' : Hp} (s : Same H H') : But p H H' := fun b o _ h => s b o h
theorem But.sqL {K : PySem.W.Frag} {p a : Addr} {H H' : Hp} {xs : List V} (s : But p H H') (n : a ≠ p) (h : SqL K H a xs) : SqL K H' a xs := by
  rcases h with (h | ⟨o, h⟩) | h
  · exact .inl (.inl (s _ _ n h))
  · exact .inl (.inr ⟨o, s _ _ n h⟩)
  · exact .inr h
theorem yesT {A B : Hp → Prop} {σ : St} {H : Hp} (h : A H) : tYes σ H (fun b H3 => if b = true then A H3 else B H3) := by
  show (if true = true then A H else B H)
  exact iteT h
theorem nope {b : Bool} {A B : Prop} (h : b = false) (k : B) : if b = true then A else B := by
  rw [h]; exact iteF k
theorem yep {b : Bool} {A B : Prop} (h : b = true) (k : A) : if b = true then A else B := by
  rw [h]; exact iteT k
theorem SqT.ty {K : PySem.W.Frag} {H : Hp} {a : Addr} {xs : List V} (h : SqT K H a xs) : TyX K H (.ref a) (.type "tuple") := by
  rcases h with (h | ⟨o, h⟩) | ⟨o, its, n, h, c, _⟩
  · exact .base (.tup h)
  · exact .fTuple h
  · exact .kTuple h c
theorem SqL.ty {K : PySem.W.Frag} {H : Hp} {a : Addr} {xs : List V} (h : SqL K H a xs) : TyX K H (.ref a) (.type "list") := by
  rcases h with (h | ⟨o, h⟩) | ⟨o, its, n, h, c, _⟩
  · exact .base (.lst h)
  · exact .base (.frz h)
  · exact .kList h c
/-- None, a bool, a number, a text -/
inductive Atom : V → Prop where
  | non : Atom .non
  | bl (b : Bool) : Atom (.bl b)
  | int (i : Int) : Atom (.int i)
  | str (z : Str) : Atom (.str z)
/-- x and y are the same data, at most n deep -/
def Eqd (K : PySem.W.Frag) : Nat → Hp → V → V → Prop
  | 0, _, x, y => x = y ∧ Atom x
  | n + 1, H, x, y => (x = y ∧ Atom x) ∨ (∃ a b xs ys, x = .ref a ∧ y = .ref b ∧ ((SqT K H a xs ∧ SqT K H b ys) ∨ (SqL K H a xs ∧ SqL K H b ys)) ∧ xs.length = ys.length ∧ xs.length ≤ sizeLine ∧ ∀ (i : Nat) (u v : V), xs[i]? = some u → ys[i]? = some v → Eqd K n H u v)
theorem Eqd.atom {K : PySem.W.Frag} {n : Nat} {H : Hp} {x : V} (h : Atom x) : Eqd K n H x x := by
  cases n with
  | zero => exact ⟨rfl, h⟩
  | succ n => exact .inl ⟨rfl, h⟩
theorem Eqd.same {K : PySem.W.Frag} : ∀ {n : Nat} {H H' : Hp} {x y : V}, Eqd K n H x y → Same H H' → Eqd K n H' x y := by
  intro n
  induction n with
  | zero => intro H H' x y h _; exact h
  | succ n ih =>
    intro H H' x y h s
    rcases h with h | ⟨a, b, xs, ys, e1, e2, h, hl, hz, hi⟩
    · exact .inl h
    · exact .inr ⟨a, b, xs, ys, e1, e2, h.imp (fun z => ⟨s.seqT z.1, s.seqT z.2⟩) (fun z => ⟨s.seq z.1, s.seq z.2⟩), hl, hz, fun i u v h1 h2 => ih (hi i u v h1 h2) s⟩
theorem Eqd.ints {K : PySem.W.Frag} {n : Nat} {H : Hp} {ns : List Int} : ∀ (i : Nat) (u v : V), (ns.map V.int)[i]? = some u → (ns.map V.int)[i]? = some v → Eqd K n H u v := fun i u v h1 h2 => by
  obtain ⟨x, _, rfl⟩ := map_get h1
  rw [h1] at h2
  cases h2
  exact .atom (.int x)
theorem But.fresh {p : Addr} {o : HO} {H H' : Hp} (hn : H p = none) (bt : But p (upd H p o) H') : Same H H' := fun b u e => by
  have nb : b ≠ p := fun z => by rw [z, hn] at e; cases e
  exact bt b u nb (by rw [upd_ne nb]; exact e)
theorem But.seqT {K : PySem.W.Frag} {p a : Addr} {H H' : Hp} {xs ps : List V} (s : But p H H') (hp : H p = some (.lst ps)) (h : SqT K H a xs) : SqT K H' a xs := by
  rcases h with (h | ⟨o, h⟩) | h
  · exact .inl (.inl (s _ _ (fun z => by rw [z, hp] at h; cases h) h))
  · exact .inl (.inr ⟨o, s _ _ (fun z => by rw [z, hp] at h; cases h) h⟩)
  · exact .inr h
/-- an error of class C with the dict o is raised over a heap that has grown -/
def Rs (C : Addr) (o : HO) (H : Hp) (E : XK) : Prop := ∀ H' d, Same H H' → H' d = none → E (.ref C) (some d) (upd H' d o)
theorem Rs.now {C : Addr} {o : HO} {H : Hp} {E : XK} (h : Rs C o H E) (d : Addr) (hd : H d = none) : E (.ref C) (some d) (upd H d o) := h H d (.refl _) hd
theorem Rs.same {C : Addr} {o : HO} {H H' : Hp} {E : XK} (h : Rs C o H E) (s : Same H H') : Rs C o H' E := fun H2 d s2 hd => h H2 d (s.trans s2) hd
theorem passF {X : Cx} : Passes (L2.CX X.prog X.w) X (fun _ _ _ => False) := passes_call takes0 (fun _ _ _ _ h => h)
theorem sL {n : Nat} (h : n ≤ 1000) : n ≤ sizeLine := by rw [sizeLine_eq]; omega
theorem Eqd.row {K : PySem.W.Frag} {n : Nat} {H : Hp} {a b : Addr} {ns : List Int} (h : (SqT K H a (ns.map V.int) ∧ SqT K H b (ns.map V.int)) ∨ (SqL K H a (ns.map V.int) ∧ SqL K H b (ns.map V.int))) (l : ns.length ≤ 1000) : Eqd K (n + 1) H (.ref a) (.ref b) :=
  .inr ⟨a, b, _, _, rfl, rfl, h, rfl, by rw [List.length_map]; exact sL l, Eqd.ints⟩
theorem mod_lt {a m : Int} (h : 0 < m) : 0 ≤ a.fmod m ∧ a.fmod m < m := by
  rw [Int.fmod_eq_emod_of_nonneg a (by omega)]
  exact ⟨Int.emod_nonneg _ (by omega), Int.emod_lt_of_pos _ h⟩
/-- a law's pool of draws -/
def PoolOk (st : List V) : Prop := ∃ a b c : Int, st = [.int a, .int b, .int c] ∧ 0 ≤ b ∧ b < 2147483648
end L2

set_option maxRecDepth 100000
set_option maxHeartbeats 4000000
/-! # len(obj) of an own class -/
namespace L2
open PySem PySem.Spec PyProof.Rows
section
variable {X : Cx} {CX : CXT} {C f : Addr} {ps : List Str} {sp : Sp} {E : XK} {k : Nat}
/-- len(a), a of a class with __len__, which gives a number below 2 ^ 62 -/
def rOwnLenW (C : Addr) (sp : Sp) (E : XK) : List V → Hp → VK → Prop := fun xs H Q => ∃ a dx fs, xs = [.ref a] ∧ H a = some (.ins C dx fs) ∧ sp [.ref a] H (fun v H' => ∃ n : Nat, v = .int (n : Nat) ∧ n < 2 ^ 62 ∧ Q v H') E
theorem cLen (O : Ok X.prog X.w X.K X.mg X.base CX k f ps sp) (W : PySem.W.findIn X.K (.ref C) "__len__" = some (some (.ref f)) ∧ PySem.W.isFn X.K (.ref f) = true) (hr : Room (k + 1) X.A) (hx : Passes CX X E) : CallR X (.builtin "len") (rOwnLenW C sp E) := by
  obtain ⟨fd, F, hb, _⟩ := O.ex
  intro pins s σ H xs us Q I r h
  obtain ⟨a, dx, fs, rfl, ha, hsp⟩ := h
  cases r with
  | cons r rr =>
  cases rr
  cases r
  obtain ⟨od, J⟩ := inst_of I.hok ha
  obtain ⟨m, hF⟩ := I.fr
  refine PySem.W.len_K hF I.ok.mod.kin J W.1 W.2 (wpAny_mono (run_fnA F hb hr.in1 I.env0.in1 hx I (us := [.ref a]) (vs := [.ref a]) (.cons rfl .nil) hsp) (fun v s' q => ?_) fun _ _ z => z)
  obtain ⟨x, H', I', rx, n, rfl, hn, q⟩ := q
  obtain ⟨t, rfl⟩ := rx
  exact ⟨⟨by omega, by omega⟩, .int (n : Nat), H', I'.tok _, ⟨_, rfl⟩, q⟩
/-- a def called within a built-in's call, in a try's body -/
theorem run_fnAS {E : St → XK} {fd : FuncData} {A : Around} {pins : List (Addr × Obj)} {σ : St} {H : Hp} {s : Shared} {Q : VK} {us : List Value} {vs : List V} (F : FnOk X.prog X.w X.K X.mg X.base CX k f fd ps sp) (hb : Binds X.K fd ps []) (hr : Room k A) (e0 : Env0 X.prog X.w X.K X.mg X.base A X.stack s H) (hx : PassesAt CX X σ (E σ))
    (I : Inv X pins σ H s) (r : Vals vs us) (h : sp vs H Q (E σ)) : wpAny (model X.prog X.w) A (call (.ref f) us) (EP X pins σ Q) X.xe s := by
  have hl : us.length = ps.length := r.length.symm.trans (F.len _ _ _ _ h)
  have B : BindsTo s fd ⟨us, []⟩ (ps.zip us) := by
    have := hb s us I.kIn (by rw [List.append_nil]; exact hl)
    rwa [List.append_nil] at this
  refine wpAny_call (codeAny_mono (F.run A X.stack s H ⟨us, []⟩ us vs Q (E σ) hr e0 B r h) fun r s' hq => ?_)
  cases r with
  | error e => exact hx pins H s e s' I hq
  | ok fl =>
    cases fl with
    | ret u => exact I.after hq
    | next => exact hq.elim
    | brk => exact hq.elim
    | cont => exact hq.elim
/-- a[i], a of a class with __getitem__, i a number; E may hang on the slots (a try's body) -/
def tOwnIx (C : Addr) (sp : Sp) (E : St → XK) (ta tb : TE) : TE := fun σ H Q => ta σ H fun x H1 => tb σ H1 fun y H2 => ∃ p dx fs i, x = .ref p ∧ y = .int i ∧ H2 p = some (.ins C dx fs) ∧ sp [.ref p, .int i] H2 Q (E σ)
structure OwnIx (K : PySem.W.Frag) (C f : Addr) : Prop where
  at_ : PySem.W.findIn K (.ref C) "__getitem__" = some (some (.ref f))
  fi : PySem.W.fnIn K f = true
  fn : PySem.W.isFn K (.ref f) = true
theorem peOwnIx {E : St → XK} {a b : Expr} {ta tb : TE} {pos : Pos} (O : Ok X.prog X.w X.K X.mg X.base CX k f ps sp) (W : OwnIx X.K C f) (hr : Room (k + 1) X.A) (hx : ∀ σ, PassesAt CX X σ (E σ)) (ha : PE X a ta) (hb : PE X b tb)
    (hsl : ∀ (p : Addr) (i : Value), subscripted b true (.ref p) i = runValue (.builtin "lifetime.subscript" ⟨[.ref p, i], []⟩) := by intro _ _; with_unfolding_all rfl) : PE X (.Subscript a b pos) (tOwnIx C sp E ta tb) := by
  obtain ⟨fd, F, bn, _⟩ := O.ex
  refine ⟨fun pins s σ H Q I h => Subscript_ (binT ha hb I h fun v u s2 x y H2 I2 rx ry q => ?_)⟩
  obtain ⟨p, dx, fs, i, rfl, rfl, hp, hsp⟩ := q
  cases rx
  obtain ⟨t, rfl⟩ := ry
  obtain ⟨od, J⟩ := inst_of I2.hok hp
  obtain ⟨m, hF⟩ := I2.fr
  exact PySem.W.sub_K hF I2.ok.mod.kin J W.at_ W.fi W.fn (run_fnAS F bn hr.in1 I2.env0.in1 (hx σ) I2 (us := [.ref p, .int i t]) (vs := [.ref p, .int i]) (.cons rfl (.cons ⟨t, rfl⟩ .nil)) hsp) (hsl p _)
/-- outside a try -/
theorem atP {E : XK} (h : Passes CX X E) : ∀ σ : St, PassesAt CX X σ E := fun σ pins H s e s' I c => h pins σ H s e s' I c
end
end L2

set_option maxRecDepth 100000
set_option maxHeartbeats 4000000
/-! # obj == x, obj < x: an own class's comparison with a value of any of four kinds -/
namespace L2
open PySem PySem.Spec PyProof.Rows
/-- what the right side may be, and its type -/
inductive CmpTy (K : PySem.W.Frag) (H : Hp) : V → Value → Prop
  | int (n : Int) : CmpTy K H (.int n) (.type "int")
  | lst {a : Addr} {xs : List V} (h : SqL K H a xs) : CmpTy K H (.ref a) (.type "list")
  | tup {a : Addr} {xs : List V} (h : SqT K H a xs) : CmpTy K H (.ref a) (.type "tuple")
  | own {a C dx : Addr} {fs : List (Str × V)} (h : H a = some (.ins C dx fs)) : CmpTy K H (.ref a) (.ref C)
theorem CmpTy.looks {X : Cx} {pins : List (Addr × Obj)} {σ : St} {H : Hp} {s : Shared} {y : V} {u tb : Value} (I : Inv X pins σ H s) (c : CmpTy X.K H y tb) (r : RelV y u) : PySem.W.Looks (model X.prog X.w) s.heap (typeOf u) tb := by
  cases c with
  | int n => obtain ⟨t, rfl⟩ := r; exact PySem.W.Looks.of_pure rfl
  | lst h =>
    cases r
    obtain ⟨its, _, p, _⟩ := I.list h
    obtain ⟨o, ho, hc, _⟩ := p.isList
    exact fun A Q E s' k q => wpAny_typeOf_ref (k _ _ ho) (by rw [hc]; exact q)
  | tup h =>
    cases r
    obtain ⟨its, _, ⟨o, ho, hc, _⟩, _⟩ := I.tuple h
    exact fun A Q E s' k q => wpAny_typeOf_ref (k _ _ ho) (by rw [hc]; exact q)
  | own h =>
    cases r
    obtain ⟨od, J⟩ := inst_of I.hok h
    exact J.type
/-- a op y, a of the class at C, whose def for op is at f -/
structure OwnCmp (K : PySem.W.Frag) (C : Addr) (op : CmpOp) (f : Addr) (tb : Value) : Prop where
  at_ : PySem.W.findIn K (.ref C) (cmpInfo op).2.1 = some (some (.ref f))
  fn : PySem.W.isFn K (.ref f) = true
  nf : PySem.W.notFirst K C tb = true
def rOwnCmp (K : PySem.W.Frag) (C : Addr) (tb : Value) (sp : Sp) (E : XK) : R2 := fun x y H Q => ∃ a dx fs, x = .ref a ∧ H a = some (.ins C dx fs) ∧ CmpTy K H y tb ∧ sp [.ref a, y] H Q E
section
variable {X : Cx} {CX : CXT} {C f : Addr} {ps : List Str} {sp : Sp} {E : XK} {k : Nat}
theorem oCmp {op : CmpOp} {tb : Value} (hop : ∀ a b, compareOp op a b = richCompare op a b) (O : Ok X.prog X.w X.K X.mg X.base CX k f ps sp) (W : OwnCmp X.K C op f tb) (hr : Room k X.A) (hx : Passes CX X E) : OpR X (compareOp op) (rOwnCmp X.K C tb sp E) := by
  obtain ⟨fd, F, hb, _⟩ := O.ex
  intro pins s σ H x y v u Q I rx ry h
  obtain ⟨a, dx, fs, rfl, ha, ct, hsp⟩ := h
  cases rx
  obtain ⟨od, J⟩ := inst_of I.hok ha
  obtain ⟨m, hF⟩ := I.fr
  rw [hop]
  exact PySem.W.cmp_K (op := op) hr.units0 hF I.ok.mod.kin J (ct.looks I ry) W.nf W.at_ W.fn (wpAny_mono (run_fn F hr hb .nil hx I (us := [.ref a, u]) (vs := [.ref a, y]) (.cons rfl (.cons ry .nil)) hsp) (fun r s' q => back_of q) fun _ _ z => z)
/-- xs[i] as it is read in xs[i] += n, 0 ≤ i -/
def gIxL (K : PySem.W.Frag) : V → V → Hp → VK → Prop := fun o i H Q => ∃ p xs j v, o = .ref p ∧ i = .int ((j : Nat) : Int) ∧ SqL K H p xs ∧ xs[j]? = some v ∧ Q v H
theorem get_list : PGet X (gIxL X.K) := by
  intro pins s σ H o i ov iv Q I ro ri h
  obtain ⟨p, xs, j, v, rfl, rfl, hp, hj, q⟩ := h
  cases ro
  obtain ⟨t, rfl⟩ := ri
  obtain ⟨its, r, pl, hz⟩ := I.list hp
  obtain ⟨w, ew, rw'⟩ := r.get hj
  have hl := r.length
  have lt : j < xs.length := (List.getElem?_eq_some_iff.mp hj).1
  have hn := line63
  exact wpAny_getItem_list pl.isList (by omega) (by omega) (by rw [Int.toNat_natCast]; simpa using ew) ⟨v, H, I, rw', q⟩
end
end L2

set_option maxRecDepth 100000
set_option maxHeartbeats 4000000
namespace FC
open PySem PySem.W PySem.Calls PyProof.Rows He He5 HX
def cmpB (K : Frag) (C : Addr) (op : CmpOp) (f : Addr) (tb : Value) : Bool := eqO (findIn K (.ref C) (cmpInfo op).2.1) (some (some (.ref f))) && (isFn K (.ref f) && notFirst K C tb)
theorem cmp_ok {K : Frag} {C f : Addr} {op : CmpOp} {tb : Value} (h : cmpB K C op f tb = true) : L2.OwnCmp K C op f tb := by
  obtain ⟨h1, h⟩ := ba h
  obtain ⟨h2, h3⟩ := ba h
  exact ⟨eqO_ok h1, h2, h3⟩
def ixB (K : Frag) (C f : Addr) : Bool := eqO (findIn K (.ref C) "__getitem__") (some (some (.ref f))) && (fnIn K f && isFn K (.ref f))
theorem ix_ok {K : Frag} {C f : Addr} (h : ixB K C f = true) : L2.OwnIx K C f := by
  obtain ⟨h1, h⟩ := ba h
  obtain ⟨h2, h3⟩ := ba h
  exact ⟨eqO_ok h1, h2, h3⟩
end FC

set_option maxRecDepth 100000
set_option maxHeartbeats 4000000
/-! # obj.m(e, .., k = v) -/
namespace L2
open PySem PySem.Spec PyProof.Rows
def tMethN (C : Addr) (m : Str) (n mm : Nat) (sp : Sp) (gV : List V → List V → List V) (E : XK) (ta : TE) (t tk : TA) : TE := fun σ H Q => ta σ H fun x H1 => ∃ a dx fs, x = .ref a ∧ H1 a = some (.ins C dx fs) ∧ fs.lookup m = none ∧
  t σ H1 fun vs H2 => tk σ H2 fun zs H3 => vs.length = n ∧ zs.length = mm ∧ sp (gV (.ref a :: vs) zs) H3 Q E
theorem pe_methN {X : Cx} {CX : CXT} {k n : Nat} {f C : Addr} {fd : FuncData} {ps ks : List Str} {sp : Sp} {E : XK} {m : Str} {o e : Expr} {es : List Expr} {kws : List Keyword} {ta : TE} {t tk : TA} {apos pos : Pos} {pl : Sem Bool} {g : List Value → List Value → List Value} {gV : List V → List V → List V}
    (he : PE X o ta) (c : Cls X.K C) (hm : Meth X.K C m f) (F : FnOk X.prog X.w X.K X.mg X.base CX k f fd ps sp) (hr : Room k X.A) (hb : KBn X.K fd ps (n + 1) ks g gV) (hx : Passes CX X E) (ha : PA X (e :: es) t) (hkw : PK X kws tk)
    (hall : (backToKw pos (keywordEach kws X.env)).all (·.1.isSome) = true := by rfl) (hks : (backToKw pos (keywordEach kws X.env)).filterMap (·.1) = ks := by rfl)
    (hst : starEach (e :: es) X.env = (false, eval e X.env) :: starEach es X.env := by rfl) (hpl : ((backTo pos (starEach (e :: es) X.env)).any (·.1) || (backToKw pos (keywordEach kws X.env)).any (·.1.isNone)) = false := by rfl)
    (ht : eval (.Call (.Attribute o m apos) (e :: es) kws pos) X.env = (do
      let ov ← eval o X.env
      standAt apos.atName
      let (f, first) ← holding [ov] (getMethod ov m pl)
      callWith pos f first (backTo pos (starEach (e :: es) X.env)) (backToKw pos (keywordEach kws X.env))) := by rfl) :
    PE X (.Call (.Attribute o m apos) (e :: es) kws pos) (tMethN C m n ks.length sp gV E ta t tk) := by
  refine ⟨fun pins s σ H Q I h => ?_⟩
  refine PySem.W.methodCall_KW (pl := pl) (thn (he.run pins s σ H _ I h) fun u s1 ⟨x, H1, I1, rx, a, dx, fs, ex, ea, l, q⟩ => ?_) ht
  subst ex
  obtain rfl : u = Value.ref a := rx
  refine getmeth_ok I1 ea c hm l ?_
  refine PySem.W.callWith_KW (first := [.ref a]) (h₀ := X.base) I.ok.mod.kin hm.kp hall (thn (ha.run pos pins s1 σ H1 _ I1 q) fun us s2 ⟨vs, H2, I2, r, q2⟩ => ?_) hpl hst
  refine thn (hkw.run pos pins s2 σ H2 _ I2 q2) fun ws s3 ⟨zs, H3, I3, rz, l1, l2, q3⟩ => ⟨I3.kIn, ?_⟩
  rw [hks]
  exact run_fnN (us := .ref a :: us) (vs := .ref a :: vs) F hr hb hx I3 (.cons rfl r) rz (congrArg Nat.succ l1) l2 q3
end L2

set_option maxRecDepth 100000
set_option maxHeartbeats 4000000
/-! # Properties as facts; obj.m(k = v), C.m(a, .., k = v), cls(a, .., k = v) -/
namespace L2
open PySem PySem.Spec PyProof.Rows
def propObj (K : PySem.W.Frag) (C : Addr) (f : Str) : Addr := match PySem.W.findIn K (.ref C) f with
  | some (some (.ref p)) => p
  | _ => 0
def propAt (K : PySem.W.Frag) (C : Addr) (f : Str) : Addr := match PySem.W.recIn K (propObj K C f) "property" with
  | some (.ref g :: _) => g
  | _ => 0
def propB (K : PySem.W.Frag) (C : Addr) (f : Str) : Bool :=
  decide (PySem.W.findIn K (.ref C) f = some (some (.ref (propObj K C f)))) && (decide (PySem.W.specialIn K (.ref (propObj K C f)) "__get__" = some (some (.builtin "property.__get__"))) &&
    (decide (PySem.W.takesIn K (.ref (propObj K C f)) = some true) && (match PySem.W.recIn K (propObj K C f) "property" with
      | some (.ref _ :: _) => true
      | _ => false)))
theorem prop_ok {K : PySem.W.Frag} {C : Addr} {f : Str} (h : propB K C f = true) : PropOf K C f (propObj K C f) (propAt K C f) := by
  unfold propB at h
  simp only [Bool.and_eq_true, decide_eq_true_eq] at h
  obtain ⟨h1, h2, h3, h4⟩ := h
  refine ⟨h1, h2, h3, ?_⟩
  unfold propAt
  split at h4
  · rename_i g rest e
    exact ⟨rest, by rw [e]⟩
  · cases h4
section
variable {X : Cx} {CX : CXT} {k n i : Nat} {f C : Addr} {fd : FuncData} {ps ks : List Str} {sp : Sp} {E : XK} {x m : Str} {o e : Expr} {es : List Expr} {kws : List Keyword} {ta : TE} {t tk : TA} {p apos pos : Pos} {pl : Sem Bool} {g : List Value → List Value → List Value} {gV : List V → List V → List V}
/-- o.m(k = v, ..) -/
theorem pe_methN0 (he : PE X o ta) (c : Cls X.K C) (hm : Meth X.K C m f) (F : FnOk X.prog X.w X.K X.mg X.base CX k f fd ps sp) (hr : Room k X.A) (hb : KBn X.K fd ps 1 ks g gV) (hx : Passes CX X E) (hkw : PK X kws tk)
    (hall : (backToKw pos (keywordEach kws X.env)).all (·.1.isSome) = true := by rfl) (hks : (backToKw pos (keywordEach kws X.env)).filterMap (·.1) = ks := by rfl)
    (hpl : ((backTo pos (starEach [] X.env)).any (·.1) || (backToKw pos (keywordEach kws X.env)).any (·.1.isNone)) = false := by rfl)
    (ht : eval (.Call (.Attribute o m apos) [] kws pos) X.env = (do
      let ov ← eval o X.env
      standAt apos.atName
      let (f, first) ← holding [ov] (getMethod ov m pl)
      callWith pos f first (backTo pos (starEach [] X.env)) (backToKw pos (keywordEach kws X.env))) := by rfl) :
    PE X (.Call (.Attribute o m apos) [] kws pos) (tMethN C m 0 ks.length sp gV E ta tNil tk) := by
  refine ⟨fun pins s σ H Q I h => ?_⟩
  refine PySem.W.methodCall_KW (pl := pl) (thn (he.run pins s σ H _ I h) fun u s1 ⟨y, H1, I1, rx, a, dx, fs, ex, ea, l, q⟩ => ?_) ht
  subst ex
  obtain rfl : u = Value.ref a := rx
  refine getmeth_ok I1 ea c hm l ?_
  refine PySem.W.callWith_KW0 (first := [.ref a]) (h₀ := X.base) I.ok.mod.kin hm.kp hall ?_ hpl
  refine thn (hkw.run pos pins s1 σ H1 _ I1 q) fun ws s3 ⟨zs, H3, I3, rz, l1, l2, q3⟩ => ⟨I3.kIn, ?_⟩
  rw [hks]
  exact run_fnN (us := [.ref a]) (vs := [.ref a]) F hr hb hx I3 (.cons rfl .nil) rz rfl l2 q3
/-- cls(e, .., k = v), cls a local name that holds the class at C -/
def tMakeLK (i : Nat) (C : Addr) (n m : Nat) (sp : Sp) (gV : List V → List V → List V) (E : XK) (t tk : TA) : TE := fun σ H Q => σ[i]? = some (some (.ref C)) ∧ tMakeK C n m sp gV E t tk σ H Q
theorem pmkLK (M : Mk X.K C f) (F : FnOk X.prog X.w X.K X.mg X.base CX k f fd ps sp) (hr : Room (k + 1) X.A) (hN : X.N[i]? = some x) (hv : Vis X.env.scope x) (hb : KBn X.K fd ps (n + 1) ks g gV) (hx : Passes CX X E) (ha : PA X (e :: es) t) (hkw : PK X kws tk)
    (hall : (backToKw pos (keywordEach kws X.env)).all (·.1.isSome) = true := by rfl) (hks : (backToKw pos (keywordEach kws X.env)).filterMap (·.1) = ks := by rfl) (hdb : (x == ("__debug__" : Str)) = false := by decide) (hcd : (x == ("__classdict__" : Str)) = false := by decide)
    (he : starEach (e :: es) X.env = (false, eval e X.env) :: starEach es X.env := by rfl) (hpl : ((backTo pos (starEach (e :: es) X.env)).any (·.1) || (backToKw pos (keywordEach kws X.env)).any (·.1.isNone)) = false := by rfl) :
    PE X (.Call (.Name x p) (e :: es) kws pos) (tMakeLK i C n ks.length sp gV E t tk) := by
  refine ⟨fun pins s σ H Q I h => ?_⟩
  obtain ⟨hs, h⟩ := h
  refine wpAny_Call_Name_kw (thn ((pe_var (pos := p) hN hv hdb hcd).run pins s σ H (fun v H1 => v = .ref C ∧ H1 = H) I ⟨.ref C, hs, rfl, rfl⟩) fun u s1 ⟨v, H1, I1, r1, q1⟩ => ?_)
  obtain ⟨rfl, rfl⟩ := q1
  cases r1
  refine PySem.W.callWith_KW (h₀ := X.base) I.ok.mod.kin M.kp hall (thn (ha.run pos pins s1 σ _ _ I1 h) fun us s2 ⟨vs, H2, I2, r, q⟩ => ?_) hpl he
  refine thn (hkw.run pos pins s2 σ H2 _ I2 q) fun ws s3 ⟨zs, H3, I3, rz, l1, l2, q2⟩ => ⟨I3.kIn, ?_⟩
  rw [hks]
  exact run_makeK M F hr hb hx I3 r rz l1 l2 q2
end
/-- a def with keywords, as a classmethod's def -/
theorem fnS_of {P : Program} {w : World} {K : PySem.W.Frag} {mg : Str → Option Value} {base : Heap} {CX : CXT} {k n : Nat} {f : Addr} {fd : FuncData} {ps ks : List Str} {sp : Sp} {g : List Value → List Value → List Value} {gV : List V → List V → List V} (F : FnOk P w K mg base CX k f fd ps sp) (hb : KBn K fd ps n ks g gV) :
    FnS P w K mg base CX k f ks (fun vs zs H Q E => vs.length = n ∧ zs.length = ks.length ∧ sp (gV vs zs) H Q E) := by
  intro A outer s H us ws vs zs Q E hr e0 r rz h
  obtain ⟨l1, l2, h⟩ := h
  have KX : K.In s.heap := e0.mod.kin.keeps fun b o e => (e0.bs b o e).1
  exact F.run A outer s H ⟨us, ks.zip ws⟩ (g us ws) (gV vs zs) Q E hr e0 (hb.to s us ws KX (r.length.symm.trans l1) (rz.length.symm.trans l2)) (hb.rel r rz) h
end L2

set_option maxRecDepth 100000
set_option maxHeartbeats 4000000
/-! # max(xs, default=d), min(xs, default=d) of a list of numbers -/
namespace L2
open PySem PySem.W PySem.Spec PyProof.Rows
section
variable {prog : Program} {w : World} {A : Around} {E : Value → Shared → Prop} {s : Shared} {l : Addr} {its : List Value} {ns : List Int} {d : Value} {Q : Value → Shared → Prop}
theorem maxD_raw (hh : A.handled = none) (hl : s.heap.IsList l its.toArray) (hi : IntsAre its ns)
    (h0 : ns = [] → ∀ h' tk, (∀ b o, s.heap.get? b = some o → h'.get? b = some o) → Q d { s with heap := h', toks := tk })
    (h : ∀ h' tk M t', (∀ b o, s.heap.get? b = some o → h'.get? b = some o) → M ∈ ns → (∀ a, a ∈ ns → a ≤ M) → Q (.int M t') { s with heap := h', toks := tk }) :
    wpAny (model prog w) A (call (.builtin "max") [.ref l] [(Str.ofString "default", d)]) Q E s := by
  obtain ⟨xs, e⟩ := hi.allInts.items
  have hn : numsOf (intItems xs).toList = ns := by rw [← e]; exact hi.numsOf
  rw [nums_intItems] at hn
  subst hn
  rw [e] at hl
  refine call_max_walkD (iter_listW (A := A.in1) hh hl fun s₂ e2 W st hfp hw hk => ?_)
  refine ⟨_, _, _, _, _, _, _, s.heap, fun i j => decide (numAt xs i > numAt xs j), rfl, W, st, hfp, hw, hk, fun hz s' m => ?_, fun hp => ⟨fun i j vi vj s Q E _ a b c => CmpOf.ints_gt (prog := prog) (w := w) (A := A.in1) (P := fun i v => (intItems xs)[i]? = some v) (numAt xs) (fun _ _ => intItems_at) i j vi vj s Q E a b c, fun v s' hP m => ?_⟩⟩
  · obtain ⟨h', tk, rfl, hk'⟩ := moved_old e2 rfl m
    have z : xs.size = 0 := by simpa [intItems] using hz
    exact h0 (by rw [List.map_eq_nil_iff]; exact List.eq_nil_of_length_eq_zero (by rw [Array.length_toList]; exact z)) h' tk hk'
  · obtain ⟨h', tk, rfl, hk'⟩ := moved_old e2 rfl m
    have hsz : 0 < xs.size := by simpa [intItems] using hp
    have hP' : (intItems xs)[argBest (fun i j => decide (numAt xs i > numAt xs j)) (xs.size - 1)]? = some v := by simpa [intItems] using hP
    obtain ⟨t, rfl⟩ := intItems_at hP'
    obtain ⟨h1, h2⟩ := argBest_gt (numAt xs) (xs.size - 1)
    refine h h' tk _ t hk' ?_ fun a ha => ?_
    · rw [numAt_eq]; exact PySem.getD_mem (by rw [List.length_map, Array.length_toList]; omega)
    · obtain ⟨j, hj, rfl⟩ := mem_getD ha
      rw [List.length_map, Array.length_toList] at hj
      rw [← numAt_eq]; exact h2 j (by omega)
end
section
variable {X : Cx}
def rMaxD0 (K : PySem.W.Frag) : List V → List V → Hp → VK → Prop := fun vs zs H Q => ∃ (a : Addr) (ns : List Int) (d : Int), vs = [V.ref a] ∧ zs = [V.int d] ∧ SqL K H a (ns.map V.int) ∧ ∀ m, (ns = [] ∧ m = d) ∨ (m ∈ ns ∧ ∀ y, y ∈ ns → y ≤ m) → Q (.int m) H
/-- max(xs, default=d) of a list of ints -/
theorem cr_maxD0 (hc : X.calm = true) : CallRK X (.builtin "max") [Str.ofString "default"] (rMaxD0 X.K) := by
  intro pins s σ H vs zs us ws Q I r rz h
  obtain ⟨a, ns, d, rfl, rfl, hs, q⟩ := h
  obtain ⟨its, rv, hl, _⟩ := I.list hs
  obtain rfl := Vals.ref1 r
  obtain ⟨w1, rfl, e1⟩ := vals1 rz
  refine maxD_raw (I.ok.hd hc) hl.isList rv.ints (fun z h' tk hk => ⟨.int d, H, I.kept hk, e1, q d (.inl ⟨z, rfl⟩)⟩) fun h' tk m t' hk h1 h2 => ⟨.int _, H, I.kept hk, ⟨_, rfl⟩, q m (.inr ⟨h1, h2⟩)⟩
end
end L2

set_option maxRecDepth 100000
set_option maxHeartbeats 4000000
/-! # isinstance(e, (C, D, ..)) in a suite, e an error with a dict -/
namespace L2
open PySem PySem.Spec PyProof.Rows
def rIsDT (K : PySem.W.Frag) (D a : Addr) (d : Option Addr) : List V → Hp → VK → Prop := fun xs H Q => ∃ (tp : Addr) (cs : List V) (ws : List Value) (b : Bool) (dd : Addr) (fs : List (Str × V)), xs = [.ref a, .ref tp] ∧ H tp = some (.tup cs) ∧ Paired ClsV cs ws ∧ d = some dd ∧ H dd = some (.xd fs) ∧ PySem.W.kitAny K (.ref D) ws = some b ∧ Q (.bl b) H
theorem call_isDT {X : Cx} {a D : Addr} {d : Option Addr} {oe : Obj} {pn : List (Addr × Obj)} {cls : Value} (C : ExcC X.K D) (hz : Zc cls d oe) (hf : ∃ vs, oe.data = .fields vs) :
    CallR (X.suite a ((a, oe) :: pn)) (.builtin "isinstance") (fun xs H Q => cls = .ref D ∧ rIsDT X.K D a d xs H Q) := by
  intro pins s σ H xs us Q I r h
  obtain ⟨rfl, tp, cs, ws, b, dd, fs, rfl, hT, k, rfl, ea, e, q⟩ := h
  obtain ⟨u1, u2, rfl, r1, r2⟩ := vals2 r
  cases (show u2 = Value.ref tp from r2)
  cases (show u1 = Value.ref a from r1)
  obtain ⟨_, its, rv, o, h1, h2, n, h3⟩ := (show ObjOk X.prog X.w H s.heap tp (.tup cs) from I.hok tp _ hT)
  have e3 := ClsV.all k rv
  subst e3
  obtain ⟨oc, ot, dt, sl⟩ := o
  simp only at h2 h3
  subst h2 h3
  obtain ⟨hget, _⟩ := I.pin (a, oe) (List.mem_append.mpr (.inl List.mem_cons_self))
  obtain ⟨vs, hv⟩ := hf
  obtain ⟨mA, hns, hr⟩ := (show ObjOk X.prog X.w H s.heap dd (.xd fs) from I.hok dd _ ea)
  obtain ⟨od, ho, _⟩ := lookIn_ns hns
  have J : PySem.W.InstAt s.heap a oe D (some od) := ⟨hget, hz.1, by unfold PySem.W.notCls; rw [hv] <;> rfl, by rw [hz.2]; exact ho⟩
  exact PySem.W.kia_tup (EI.kit_exc C) I.kIn J h1 e (fun z => nomatch z) fun tk => ⟨.bl b, H, I.kept (t' := tk) fun _ _ z => z, rfl, q⟩
theorem kn_nil {K : PySem.W.Frag} {t : Value} : PySem.W.kitAny K t [] = some false := rfl
theorem kn_cons {K : PySem.W.Frag} {t c : Value} {cs : List Value} (h : PySem.W.kitOne K t c = some false) (r : PySem.W.kitAny K t cs = some false) : PySem.W.kitAny K t (c :: cs) = some false := by
  rw [PySem.W.kitAny, h]
  exact r
end L2

set_option maxRecDepth 100000
set_option maxHeartbeats 0
namespace K10
open PySem PySem.W PySem.Spec PySem.Calls PyProof.Rows L2 He He5 HX
/-! ### the text by its places -/
abbrev PG : Program := PySem.Challenge.pw_nightsoff_k10_covers_read
def topS (i : Nat) : Stmt := PG.main.body.getD i (.Pass ⟨0, 0, 0, 0⟩)
abbrev s_wall : Stmt := topS 0
abbrev s_check_count : Stmt := topS 13
abbrev s_check_number : Stmt := topS 14
abbrev s_check_numbers : Stmt := topS 15
abbrev s_check_not_negative : Stmt := topS 16
abbrev s_check_rest : Stmt := topS 17
abbrev s_check_night : Stmt := topS 18
abbrev s_check_person : Stmt := topS 19
abbrev s_Cover_init : Stmt := inClass (topS 21) 0
abbrev s_Cover_len : Stmt := inClass (topS 21) 1
abbrev s_Cover_iter : Stmt := inClass (topS 21) 2
abbrev s_Cover_contains : Stmt := inClass (topS 21) 3
abbrev s_most_stretches : Stmt := topS 22
abbrev s_cover_fault : Stmt := topS 23
abbrev s_check_cover : Stmt := topS 24
abbrev s_outside_nights : Stmt := topS 25
abbrev s_stretches_of : Stmt := topS 26
abbrev s_ends_from : Stmt := topS 27
abbrev s_House_init : Stmt := inClass (topS 29) 0
abbrev s_House_all_there : Stmt := inClass (topS 29) 1
abbrev s_House_nights : Stmt := inClass (topS 29) 2
abbrev s_House_people : Stmt := inClass (topS 29) 3
abbrev s_House_whole : Stmt := inClass (topS 29) 4
abbrev s_House_changed : Stmt := inClass (topS 29) 5
abbrev s_House_here : Stmt := inClass (topS 29) 6
abbrev s_House_stretch : Stmt := inClass (topS 29) 7
abbrev s_Wants_init : Stmt := inClass (topS 31) 2
abbrev s_Wants_of : Stmt := inClass (topS 31) 3
abbrev s_Wants_len : Stmt := inClass (topS 31) 4
abbrev s_Wants_iter : Stmt := inClass (topS 31) 5
abbrev s_Wants_getitem : Stmt := inClass (topS 31) 6
abbrev s_Wants_add : Stmt := inClass (topS 31) 7
abbrev s_Wants_mul : Stmt := inClass (topS 31) 8
abbrev s_Wants_rmul : Stmt := inClass (topS 31) 9
abbrev s_Wants_lshift : Stmt := inClass (topS 31) 10
abbrev s_Wants_rshift : Stmt := inClass (topS 31) 11
abbrev s_Wants_neg : Stmt := inClass (topS 31) 12
abbrev s_Wants_abs : Stmt := inClass (topS 31) 13
abbrev s_law_pool : Stmt := topS 33
abbrev s_law_draw : Stmt := topS 34
abbrev s_law_comings : Stmt := topS 35
abbrev s_law_wants : Stmt := topS 36
abbrev s_law_size : Stmt := topS 37
abbrev s_law_int : Stmt := topS 38
abbrev s_law_same : Stmt := topS 39
abbrev s_law_inside : Stmt := topS 40
abbrev s_law_ends : Stmt := topS 41
abbrev s_law_house : Stmt := topS 42
abbrev s_law_odd_end : Stmt := topS 43
abbrev s_law_drawn_ends : Stmt := topS 44
abbrev s_law_fault : Stmt := topS 45
abbrev s_law_try : Stmt := topS 46
abbrev s_law_due : Stmt := topS 47
abbrev s_law_asked : Stmt := topS 48
abbrev s_law_reads : Stmt := topS 49
abbrev s_law : Stmt := topS 50
abbrev e_NoNight : Stmt := inClass (topS 3) 0
abbrev e_NoPerson : Stmt := inClass (topS 4) 0
abbrev e_BadNumber : Stmt := inClass (topS 5) 0
abbrev e_TooLong : Stmt := inClass (topS 6) 0
abbrev e_BadRest : Stmt := inClass (topS 7) 0
abbrev e_BadComing : Stmt := inClass (topS 8) 0
abbrev e_BadCover : Stmt := inClass (topS 9) 0
/-! ### the errors: what their __init__ says -/
theorem tx_NoNight : InitTx PG e_NoNight "NoNight.__init__" ["night"] [("night", "night")] where
  txt := ⟨_, _, _, _, _, _, _, _, _, rfl, .cons (.nil), fun env h => (by rw [show interactive env = (env.scope.kind == ScopeKind.module && env.scope.more.any fun (n, _) => n == ("interactive" : Str)) from rfl, h]; rfl), fun env h => ⟨_, by obtain ⟨⟩ := env; cases h; rfl⟩⟩
  par := ⟨_, rfl, rfl⟩
  sc := ⟨⟨rfl, rfl, rfl⟩, by decide +kernel, rfl, rfl, rfl⟩
  loc := by decide +kernel
  nod := by decide +kernel
  bind := fun s e fd us hl h1 h2 h3 => (match us, hl with | [_], _ => .of_eq (by obtain ⟨⟩ := fd; cases h1; cases h2; cases h3; rfl))
  top := by decide +kernel
  few := by decide
theorem tx_NoPerson : InitTx PG e_NoPerson "NoPerson.__init__" ["person"] [("person", "person")] where
  txt := ⟨_, _, _, _, _, _, _, _, _, rfl, .cons (.nil), fun env h => (by rw [show interactive env = (env.scope.kind == ScopeKind.module && env.scope.more.any fun (n, _) => n == ("interactive" : Str)) from rfl, h]; rfl), fun env h => ⟨_, by obtain ⟨⟩ := env; cases h; rfl⟩⟩
  par := ⟨_, rfl, rfl⟩
  sc := ⟨⟨rfl, rfl, rfl⟩, by decide +kernel, rfl, rfl, rfl⟩
  loc := by decide +kernel
  nod := by decide +kernel
  bind := fun s e fd us hl h1 h2 h3 => (match us, hl with | [_], _ => .of_eq (by obtain ⟨⟩ := fd; cases h1; cases h2; cases h3; rfl))
  top := by decide +kernel
  few := by decide
theorem tx_BadNumber : InitTx PG e_BadNumber "BadNumber.__init__" ["place", "number"] [("place", "place"), ("number", "number")] where
  txt := ⟨_, _, _, _, _, _, _, _, _, rfl, .cons (.cons (.nil)), fun env h => (by rw [show interactive env = (env.scope.kind == ScopeKind.module && env.scope.more.any fun (n, _) => n == ("interactive" : Str)) from rfl, h]; rfl), fun env h => ⟨_, by obtain ⟨⟩ := env; cases h; rfl⟩⟩
  par := ⟨_, rfl, rfl⟩
  sc := ⟨⟨rfl, rfl, rfl⟩, by decide +kernel, rfl, rfl, rfl⟩
  loc := by decide +kernel
  nod := by decide +kernel
  bind := fun s e fd us hl h1 h2 h3 => (match us, hl with | [_, _], _ => .of_eq (by obtain ⟨⟩ := fd; cases h1; cases h2; cases h3; rfl))
  top := by decide +kernel
  few := by decide
theorem tx_TooLong : InitTx PG e_TooLong "TooLong.__init__" ["count"] [("count", "count")] where
  txt := ⟨_, _, _, _, _, _, _, _, _, rfl, .cons (.nil), fun env h => (by rw [show interactive env = (env.scope.kind == ScopeKind.module && env.scope.more.any fun (n, _) => n == ("interactive" : Str)) from rfl, h]; rfl), fun env h => ⟨_, by obtain ⟨⟩ := env; cases h; rfl⟩⟩
  par := ⟨_, rfl, rfl⟩
  sc := ⟨⟨rfl, rfl, rfl⟩, by decide +kernel, rfl, rfl, rfl⟩
  loc := by decide +kernel
  nod := by decide +kernel
  bind := fun s e fd us hl h1 h2 h3 => (match us, hl with | [_], _ => .of_eq (by obtain ⟨⟩ := fd; cases h1; cases h2; cases h3; rfl))
  top := by decide +kernel
  few := by decide
theorem tx_BadRest : InitTx PG e_BadRest "BadRest.__init__" ["rest"] [("rest", "rest")] where
  txt := ⟨_, _, _, _, _, _, _, _, _, rfl, .cons (.nil), fun env h => (by rw [show interactive env = (env.scope.kind == ScopeKind.module && env.scope.more.any fun (n, _) => n == ("interactive" : Str)) from rfl, h]; rfl), fun env h => ⟨_, by obtain ⟨⟩ := env; cases h; rfl⟩⟩
  par := ⟨_, rfl, rfl⟩
  sc := ⟨⟨rfl, rfl, rfl⟩, by decide +kernel, rfl, rfl, rfl⟩
  loc := by decide +kernel
  nod := by decide +kernel
  bind := fun s e fd us hl h1 h2 h3 => (match us, hl with | [_], _ => .of_eq (by obtain ⟨⟩ := fd; cases h1; cases h2; cases h3; rfl))
  top := by decide +kernel
  few := by decide
theorem tx_BadComing : InitTx PG e_BadComing "BadComing.__init__" ["person", "coming"] [("person", "person"), ("coming", "coming")] where
  txt := ⟨_, _, _, _, _, _, _, _, _, rfl, .cons (.cons (.nil)), fun env h => (by rw [show interactive env = (env.scope.kind == ScopeKind.module && env.scope.more.any fun (n, _) => n == ("interactive" : Str)) from rfl, h]; rfl), fun env h => ⟨_, by obtain ⟨⟩ := env; cases h; rfl⟩⟩
  par := ⟨_, rfl, rfl⟩
  sc := ⟨⟨rfl, rfl, rfl⟩, by decide +kernel, rfl, rfl, rfl⟩
  loc := by decide +kernel
  nod := by decide +kernel
  bind := fun s e fd us hl h1 h2 h3 => (match us, hl with | [_, _], _ => .of_eq (by obtain ⟨⟩ := fd; cases h1; cases h2; cases h3; rfl))
  top := by decide +kernel
  few := by decide
theorem tx_BadCover : InitTx PG e_BadCover "BadCover.__init__" ["fault"] [("fault", "fault")] where
  txt := ⟨_, _, _, _, _, _, _, _, _, rfl, .cons (.nil), fun env h => (by rw [show interactive env = (env.scope.kind == ScopeKind.module && env.scope.more.any fun (n, _) => n == ("interactive" : Str)) from rfl, h]; rfl), fun env h => ⟨_, by obtain ⟨⟩ := env; cases h; rfl⟩⟩
  par := ⟨_, rfl, rfl⟩
  sc := ⟨⟨rfl, rfl, rfl⟩, by decide +kernel, rfl, rfl, rfl⟩
  loc := by decide +kernel
  nod := by decide +kernel
  bind := fun s e fd us hl h1 h2 h3 => (match us, hl with | [_], _ => .of_eq (by obtain ⟨⟩ := fd; cases h1; cases h2; cases h3; rfl))
  top := by decide +kernel
  few := by decide
/-! ### facts -/
def fn : List DefA := [
  { at_ := fun K => ga K "_wall", name := "_wall", qual := "_wall", params := defArgs s_wall, body := defBody s_wall, scope := defScope s_wall },
  { at_ := fun K => ga K "check_count", name := "check_count", qual := "check_count", params := defArgs s_check_count, body := defBody s_check_count, scope := defScope s_check_count },
  { at_ := fun K => ga K "check_number", name := "check_number", qual := "check_number", params := defArgs s_check_number, body := defBody s_check_number, scope := defScope s_check_number },
  { at_ := fun K => ga K "check_numbers", name := "check_numbers", qual := "check_numbers", params := defArgs s_check_numbers, body := defBody s_check_numbers, scope := defScope s_check_numbers },
  { at_ := fun K => ga K "check_not_negative", name := "check_not_negative", qual := "check_not_negative", params := defArgs s_check_not_negative, body := defBody s_check_not_negative, scope := defScope s_check_not_negative },
  { at_ := fun K => ga K "check_rest", name := "check_rest", qual := "check_rest", params := defArgs s_check_rest, body := defBody s_check_rest, scope := defScope s_check_rest },
  { at_ := fun K => ga K "check_night", name := "check_night", qual := "check_night", params := defArgs s_check_night, body := defBody s_check_night, scope := defScope s_check_night },
  { at_ := fun K => ga K "check_person", name := "check_person", qual := "check_person", params := defArgs s_check_person, body := defBody s_check_person, scope := defScope s_check_person },
  { at_ := fun K => ma K (ga K "Cover") "__init__", name := "__init__", qual := "Cover.__init__", params := defArgs s_Cover_init, body := defBody s_Cover_init, scope := defScope s_Cover_init },
  { at_ := fun K => ma K (ga K "Cover") "__len__", name := "__len__", qual := "Cover.__len__", params := defArgs s_Cover_len, body := defBody s_Cover_len, scope := defScope s_Cover_len },
  { at_ := fun K => ma K (ga K "Cover") "__iter__", name := "__iter__", qual := "Cover.__iter__", params := defArgs s_Cover_iter, body := defBody s_Cover_iter, scope := defScope s_Cover_iter },
  { at_ := fun K => ma K (ga K "Cover") "__contains__", name := "__contains__", qual := "Cover.__contains__", params := defArgs s_Cover_contains, body := defBody s_Cover_contains, scope := defScope s_Cover_contains },
  { at_ := fun K => ga K "most_stretches", name := "most_stretches", qual := "most_stretches", params := defArgs s_most_stretches, body := defBody s_most_stretches, scope := defScope s_most_stretches },
  { at_ := fun K => ga K "cover_fault", name := "cover_fault", qual := "cover_fault", params := defArgs s_cover_fault, body := defBody s_cover_fault, scope := defScope s_cover_fault },
  { at_ := fun K => ga K "check_cover", name := "check_cover", qual := "check_cover", params := defArgs s_check_cover, body := defBody s_check_cover, scope := defScope s_check_cover },
  { at_ := fun K => ga K "outside_nights", name := "outside_nights", qual := "outside_nights", params := defArgs s_outside_nights, body := defBody s_outside_nights, scope := defScope s_outside_nights },
  { at_ := fun K => ga K "stretches_of", name := "stretches_of", qual := "stretches_of", params := defArgs s_stretches_of, body := defBody s_stretches_of, scope := defScope s_stretches_of },
  { at_ := fun K => ga K "ends_from", name := "ends_from", qual := "ends_from", params := defArgs s_ends_from, body := defBody s_ends_from, scope := defScope s_ends_from },
  { at_ := fun K => ma K (ga K "House") "__init__", name := "__init__", qual := "House.__init__", params := defArgs s_House_init, body := defBody s_House_init, scope := defScope s_House_init, kwd := [("rest", .int 1)] },
  { at_ := fun K => wf K (ga K "House") "classmethod" "all_there", name := "all_there", qual := "House.all_there", params := defArgs s_House_all_there, body := defBody s_House_all_there, scope := defScope s_House_all_there, kwd := [("rest", .int 1)] },
  { at_ := fun K => propAt K (ga K "House") "nights", name := "nights", qual := "House.nights", params := defArgs s_House_nights, body := defBody s_House_nights, scope := defScope s_House_nights },
  { at_ := fun K => propAt K (ga K "House") "people", name := "people", qual := "House.people", params := defArgs s_House_people, body := defBody s_House_people, scope := defScope s_House_people },
  { at_ := fun K => propAt K (ga K "House") "whole", name := "whole", qual := "House.whole", params := defArgs s_House_whole, body := defBody s_House_whole, scope := defScope s_House_whole },
  { at_ := fun K => ma K (ga K "House") "changed", name := "changed", qual := "House.changed", params := defArgs s_House_changed, body := defBody s_House_changed, scope := defScope s_House_changed, kwd := [("wants", .non), ("comings", .non), ("rest", .non)] },
  { at_ := fun K => ma K (ga K "House") "here", name := "here", qual := "House.here", params := defArgs s_House_here, body := defBody s_House_here, scope := defScope s_House_here },
  { at_ := fun K => ma K (ga K "House") "stretch", name := "stretch", qual := "House.stretch", params := defArgs s_House_stretch, body := defBody s_House_stretch, scope := defScope s_House_stretch },
  { at_ := fun K => ma K (ga K "Wants") "__init__", name := "__init__", qual := "Wants.__init__", params := defArgs s_Wants_init, body := defBody s_Wants_init, scope := defScope s_Wants_init },
  { at_ := fun K => wf K (ga K "Wants") "classmethod" "of", name := "of", qual := "Wants.of", params := defArgs s_Wants_of, body := defBody s_Wants_of, scope := defScope s_Wants_of, kwd := [("times", .int 1)] },
  { at_ := fun K => ma K (ga K "Wants") "__len__", name := "__len__", qual := "Wants.__len__", params := defArgs s_Wants_len, body := defBody s_Wants_len, scope := defScope s_Wants_len },
  { at_ := fun K => ma K (ga K "Wants") "__iter__", name := "__iter__", qual := "Wants.__iter__", params := defArgs s_Wants_iter, body := defBody s_Wants_iter, scope := defScope s_Wants_iter },
  { at_ := fun K => ma K (ga K "Wants") "__getitem__", name := "__getitem__", qual := "Wants.__getitem__", params := defArgs s_Wants_getitem, body := defBody s_Wants_getitem, scope := defScope s_Wants_getitem },
  { at_ := fun K => ma K (ga K "Wants") "__add__", name := "__add__", qual := "Wants.__add__", params := defArgs s_Wants_add, body := defBody s_Wants_add, scope := defScope s_Wants_add },
  { at_ := fun K => ma K (ga K "Wants") "__mul__", name := "__mul__", qual := "Wants.__mul__", params := defArgs s_Wants_mul, body := defBody s_Wants_mul, scope := defScope s_Wants_mul },
  { at_ := fun K => ma K (ga K "Wants") "__rmul__", name := "__rmul__", qual := "Wants.__rmul__", params := defArgs s_Wants_rmul, body := defBody s_Wants_rmul, scope := defScope s_Wants_rmul },
  { at_ := fun K => ma K (ga K "Wants") "__lshift__", name := "__lshift__", qual := "Wants.__lshift__", params := defArgs s_Wants_lshift, body := defBody s_Wants_lshift, scope := defScope s_Wants_lshift },
  { at_ := fun K => ma K (ga K "Wants") "__rshift__", name := "__rshift__", qual := "Wants.__rshift__", params := defArgs s_Wants_rshift, body := defBody s_Wants_rshift, scope := defScope s_Wants_rshift },
  { at_ := fun K => ma K (ga K "Wants") "__neg__", name := "__neg__", qual := "Wants.__neg__", params := defArgs s_Wants_neg, body := defBody s_Wants_neg, scope := defScope s_Wants_neg },
  { at_ := fun K => ma K (ga K "Wants") "__abs__", name := "__abs__", qual := "Wants.__abs__", params := defArgs s_Wants_abs, body := defBody s_Wants_abs, scope := defScope s_Wants_abs },
  { at_ := fun K => ga K "_law_pool", name := "_law_pool", qual := "_law_pool", params := defArgs s_law_pool, body := defBody s_law_pool, scope := defScope s_law_pool },
  { at_ := fun K => ga K "_law_draw", name := "_law_draw", qual := "_law_draw", params := defArgs s_law_draw, body := defBody s_law_draw, scope := defScope s_law_draw },
  { at_ := fun K => ga K "_law_comings", name := "_law_comings", qual := "_law_comings", params := defArgs s_law_comings, body := defBody s_law_comings, scope := defScope s_law_comings },
  { at_ := fun K => ga K "_law_wants", name := "_law_wants", qual := "_law_wants", params := defArgs s_law_wants, body := defBody s_law_wants, scope := defScope s_law_wants },
  { at_ := fun K => ga K "_law_size", name := "_law_size", qual := "_law_size", params := defArgs s_law_size, body := defBody s_law_size, scope := defScope s_law_size },
  { at_ := fun K => ga K "_law_int", name := "_law_int", qual := "_law_int", params := defArgs s_law_int, body := defBody s_law_int, scope := defScope s_law_int },
  { at_ := fun K => ga K "_law_same", name := "_law_same", qual := "_law_same", params := defArgs s_law_same, body := defBody s_law_same, scope := defScope s_law_same },
  { at_ := fun K => ga K "_law_inside", name := "_law_inside", qual := "_law_inside", params := defArgs s_law_inside, body := defBody s_law_inside, scope := defScope s_law_inside },
  { at_ := fun K => ga K "_law_ends", name := "_law_ends", qual := "_law_ends", params := defArgs s_law_ends, body := defBody s_law_ends, scope := defScope s_law_ends },
  { at_ := fun K => ga K "_law_house", name := "_law_house", qual := "_law_house", params := defArgs s_law_house, body := defBody s_law_house, scope := defScope s_law_house },
  { at_ := fun K => ga K "_law_odd_end", name := "_law_odd_end", qual := "_law_odd_end", params := defArgs s_law_odd_end, body := defBody s_law_odd_end, scope := defScope s_law_odd_end },
  { at_ := fun K => ga K "_law_drawn_ends", name := "_law_drawn_ends", qual := "_law_drawn_ends", params := defArgs s_law_drawn_ends, body := defBody s_law_drawn_ends, scope := defScope s_law_drawn_ends },
  { at_ := fun K => ga K "_law_fault", name := "_law_fault", qual := "_law_fault", params := defArgs s_law_fault, body := defBody s_law_fault, scope := defScope s_law_fault },
  { at_ := fun K => ga K "_law_try", name := "_law_try", qual := "_law_try", params := defArgs s_law_try, body := defBody s_law_try, scope := defScope s_law_try },
  { at_ := fun K => ga K "_law_due", name := "_law_due", qual := "_law_due", params := defArgs s_law_due, body := defBody s_law_due, scope := defScope s_law_due },
  { at_ := fun K => ga K "_law_asked", name := "_law_asked", qual := "_law_asked", params := defArgs s_law_asked, body := defBody s_law_asked, scope := defScope s_law_asked },
  { at_ := fun K => ga K "_law_reads", name := "_law_reads", qual := "_law_reads", params := defArgs s_law_reads, body := defBody s_law_reads, scope := defScope s_law_reads },
  { at_ := fun K => ga K "law", name := "law", qual := "law", params := defArgs s_law, body := defBody s_law, scope := defScope s_law }]
def er : List ErrD := [⟨"NoNight", e_NoNight, "NoNight.__init__", ["night"]⟩, ⟨"NoPerson", e_NoPerson, "NoPerson.__init__", ["person"]⟩, ⟨"BadNumber", e_BadNumber, "BadNumber.__init__", ["place", "number"]⟩, ⟨"TooLong", e_TooLong, "TooLong.__init__", ["count"]⟩, ⟨"BadRest", e_BadRest, "BadRest.__init__", ["rest"]⟩, ⟨"BadComing", e_BadComing, "BadComing.__init__", ["person", "coming"]⟩, ⟨"BadCover", e_BadCover, "BadCover.__init__", ["fault"]⟩]
def bl (K : Frag) : List Bool := [
  (Fa.free "super").ok K,
  eqO (nsIn K cStatics "thirdparty.any") (some none),
  (Fa.free "len").ok K,
  (Fa.free "enumerate").ok K,
  (Fa.free "tuple").ok K,
  (Fa.free "sum").ok K,
  (Fa.free "abs").ok K,
  (Fa.free "int").ok K,
  (Fa.free "range").ok K,
  (Fa.free "isinstance").ok K,
  (Fa.free "bool").ok K,
  (Fa.free "str").ok K,
  (Fa.free "list").ok K,
  (Fa.free "max").ok K,
  (Fa.free "min").ok K,
  (Fa.free "zip").ok K,
  (Fa.free "iter").ok K,
  (Fa.free "ValueError").ok K,
  (Fa.free "any").ok K,
  (Fa.glo "_wall").ok K,
  (Fa.glo "check_count").ok K,
  (Fa.glo "check_number").ok K,
  (Fa.glo "check_numbers").ok K,
  (Fa.glo "check_not_negative").ok K,
  (Fa.glo "check_rest").ok K,
  (Fa.glo "check_night").ok K,
  (Fa.glo "check_person").ok K,
  (Fa.glo "most_stretches").ok K,
  (Fa.glo "cover_fault").ok K,
  (Fa.glo "check_cover").ok K,
  (Fa.glo "outside_nights").ok K,
  (Fa.glo "stretches_of").ok K,
  (Fa.glo "ends_from").ok K,
  (Fa.glo "_law_pool").ok K,
  (Fa.glo "_law_draw").ok K,
  (Fa.glo "_law_comings").ok K,
  (Fa.glo "_law_wants").ok K,
  (Fa.glo "_law_size").ok K,
  (Fa.glo "_law_int").ok K,
  (Fa.glo "_law_same").ok K,
  (Fa.glo "_law_inside").ok K,
  (Fa.glo "_law_ends").ok K,
  (Fa.glo "_law_house").ok K,
  (Fa.glo "_law_odd_end").ok K,
  (Fa.glo "_law_drawn_ends").ok K,
  (Fa.glo "_law_fault").ok K,
  (Fa.glo "_law_try").ok K,
  (Fa.glo "_law_due").ok K,
  (Fa.glo "_law_asked").ok K,
  (Fa.glo "_law_reads").ok K,
  (Fa.glo "law").ok K,
  (Fa.cls "House").ok K,
  (Fa.glo "House").ok K,
  EF.clsB K (ga K "House"),
  (Fa.mkr "House").ok K,
  (Fa.noat "House" "wants").ok K,
  (Fa.noat "House" "comings").ok K,
  (Fa.noat "House" "rest").ok K,
  (Fa.cls "Wants").ok K,
  (Fa.glo "Wants").ok K,
  EF.clsB K (ga K "Wants"),
  (Fa.mkr "Wants").ok K,
  (Fa.noat "Wants" "numbers").ok K,
  (Fa.cls "Cover").ok K,
  (Fa.glo "Cover").ok K,
  EF.clsB K (ga K "Cover"),
  (Fa.mkr "Cover").ok K,
  (Fa.noat "Cover" "ends").ok K,
  FB.creadB K (ga K "House"),
  FB.creadB K (ga K "Wants"),
  FB.cintB K (ga K "Wants") "MOST" 60,
  FB.cintB K (ga K "Wants") "GREATEST" 30,
  (Fa.int "MOST_PEOPLE" 30).ok K,
  (Fa.int "GREATEST_REST" 60).ok K,
  FB.spB K (ga K "Wants") "__len__" (ma K (ga K "Wants") "__len__"),
  FB.spB K (ga K "Wants") "__abs__" (ma K (ga K "Wants") "__abs__"),
  FB.spB K (ga K "Wants") "__iter__" (ma K (ga K "Wants") "__iter__"),
  FB.spB K (ga K "Wants") "__getitem__" (ma K (ga K "Wants") "__getitem__"),
  FB.spB K (ga K "Cover") "__len__" (ma K (ga K "Cover") "__len__"),
  FB.spB K (ga K "Cover") "__iter__" (ma K (ga K "Cover") "__iter__"),
  FB.spB K (ga K "Cover") "__contains__" (ma K (ga K "Cover") "__contains__"),
  FC.ixB K (ga K "Wants") (ma K (ga K "Wants") "__getitem__"),
  propB K (ga K "House") "nights",
  propB K (ga K "House") "people",
  (Fa.meth "House" "stretch").ok K,
  (Fa.glo "NightsError").ok K,
  EF.excB K (ga K "NoNight"),
  (Fa.noat "NoNight" "night").ok K,
  EF.excB K (ga K "BadNumber"),
  (Fa.noat "BadNumber" "place").ok K,
  (Fa.noat "BadNumber" "number").ok K,
  EF.excB K (ga K "TooLong"),
  (Fa.noat "TooLong" "count").ok K,
  EF.excB K (ga K "BadRest"),
  (Fa.noat "BadRest" "rest").ok K,
  EF.excB K (ga K "BadComing"),
  (Fa.noat "BadComing" "person").ok K,
  (Fa.noat "BadComing" "coming").ok K,
  EF.excB K (ga K "NoPerson"),
  (Fa.noat "NoPerson" "person").ok K,
  EF.excB K (ga K "BadCover"),
  (Fa.noat "BadCover" "fault").ok K,
  (Fa.exm "NoPerson" "NoPerson" true).ok K,
  (Fa.exm "NoPerson" "BadCover" false).ok K,
  decide (kitOne K (.ref (ga K "NoPerson")) (.ref (ga K "NightsError")) = some true),
  decide (kitOne K (.ref (ga K "NoPerson")) (.type "ValueError") = some true),
  (Fa.exm "BadCover" "NoPerson" false).ok K,
  (Fa.exm "BadCover" "BadCover" true).ok K,
  decide (kitOne K (.ref (ga K "BadCover")) (.ref (ga K "NightsError")) = some true),
  decide (kitOne K (.ref (ga K "BadCover")) (.type "ValueError") = some true),
  decide (kitOne K (.ref (ga K "BadCover")) (.ref (ga K "NoPerson")) = some false)]
def bx (K : Frag) : Bool := (bl K).all fun b => b
abbrev R : OpenRow := OpenLaw.row PySem.Challenge.rw_nightsoff_k10_covers_read
abbrev hk : Hook := hookX 6 bx fn er "/claim/cut.py"
def ob (s : SharedT) : AlX := obsXG 6 bx fn er "/claim/cut.py" (HandSHeadRun.getT s)
theorem ob_eq (s : SharedT) : ob s = hk.obs s.abs := obsXG_eq (HandSHeadRun.getT_eq s)
def nm0 : List Str := ["_wall", "NightsError", "NoNight", "NoPerson", "BadNumber", "TooLong", "BadRest", "BadComing", "BadCover", "MOST_PEOPLE", "GREATEST_REST", "check_count", "check_number", "check_numbers", "check_not_negative", "check_rest", "check_night", "check_person", "Cover", "most_stretches", "cover_fault", "check_cover", "outside_nights", "stretches_of", "ends_from", "House", "Wants", "_law_pool", "_law_draw", "_law_comings"]
def nm1 : List Str := ["_law_wants", "_law_size", "_law_int", "_law_same", "_law_inside", "_law_ends", "_law_house", "_law_odd_end", "_law_drawn_ends", "_law_fault", "_law_try", "_law_due", "_law_asked", "_law_reads"]
def names : List Str := nm0 ++ nm1
theorem run (w : World) : HandSHeadRun.RunEq R (view R.prog [50]) hk ob 20000 names w := by
  intro os
  kernel_rfl
theorem fact {K : Frag} (c : SaysX bx fn er "/claim/cut.py" K) (i : Nat) {b : Bool} (h : (bl K)[i]? = some b := by rfl) : b = true := List.all_eq_true.mp (SaysX.bool c) b (List.mem_of_getElem? h)
/-! ### where the defs stand, their names, their facts in one bundle -/
abbrev c_NightsError (K : Frag) : Addr := ga K "NightsError"
abbrev c_NoNight (K : Frag) : Addr := ga K "NoNight"
abbrev c_NoPerson (K : Frag) : Addr := ga K "NoPerson"
abbrev c_BadNumber (K : Frag) : Addr := ga K "BadNumber"
abbrev c_TooLong (K : Frag) : Addr := ga K "TooLong"
abbrev c_BadRest (K : Frag) : Addr := ga K "BadRest"
abbrev c_BadComing (K : Frag) : Addr := ga K "BadComing"
abbrev c_BadCover (K : Frag) : Addr := ga K "BadCover"
abbrev c_Cover (K : Frag) : Addr := ga K "Cover"
abbrev c_House (K : Frag) : Addr := ga K "House"
abbrev c_Wants (K : Frag) : Addr := ga K "Wants"
abbrev a_wall (K : Frag) : Addr := (fun K => ga K "_wall") K
abbrev a_check_count (K : Frag) : Addr := (fun K => ga K "check_count") K
abbrev a_check_number (K : Frag) : Addr := (fun K => ga K "check_number") K
abbrev a_check_numbers (K : Frag) : Addr := (fun K => ga K "check_numbers") K
abbrev a_check_not_negative (K : Frag) : Addr := (fun K => ga K "check_not_negative") K
abbrev a_check_rest (K : Frag) : Addr := (fun K => ga K "check_rest") K
abbrev a_check_night (K : Frag) : Addr := (fun K => ga K "check_night") K
abbrev a_check_person (K : Frag) : Addr := (fun K => ga K "check_person") K
abbrev a_Cover_init (K : Frag) : Addr := (fun K => ma K (ga K "Cover") "__init__") K
abbrev a_Cover_len (K : Frag) : Addr := (fun K => ma K (ga K "Cover") "__len__") K
abbrev a_Cover_iter (K : Frag) : Addr := (fun K => ma K (ga K "Cover") "__iter__") K
abbrev a_Cover_contains (K : Frag) : Addr := (fun K => ma K (ga K "Cover") "__contains__") K
abbrev a_most_stretches (K : Frag) : Addr := (fun K => ga K "most_stretches") K
abbrev a_cover_fault (K : Frag) : Addr := (fun K => ga K "cover_fault") K
abbrev a_check_cover (K : Frag) : Addr := (fun K => ga K "check_cover") K
abbrev a_outside_nights (K : Frag) : Addr := (fun K => ga K "outside_nights") K
abbrev a_stretches_of (K : Frag) : Addr := (fun K => ga K "stretches_of") K
abbrev a_ends_from (K : Frag) : Addr := (fun K => ga K "ends_from") K
abbrev a_House_init (K : Frag) : Addr := (fun K => ma K (ga K "House") "__init__") K
abbrev a_House_all_there (K : Frag) : Addr := (fun K => wf K (ga K "House") "classmethod" "all_there") K
abbrev a_House_nights (K : Frag) : Addr := (fun K => propAt K (ga K "House") "nights") K
abbrev a_House_people (K : Frag) : Addr := (fun K => propAt K (ga K "House") "people") K
abbrev a_House_whole (K : Frag) : Addr := (fun K => propAt K (ga K "House") "whole") K
abbrev a_House_changed (K : Frag) : Addr := (fun K => ma K (ga K "House") "changed") K
abbrev a_House_here (K : Frag) : Addr := (fun K => ma K (ga K "House") "here") K
abbrev a_House_stretch (K : Frag) : Addr := (fun K => ma K (ga K "House") "stretch") K
abbrev a_Wants_init (K : Frag) : Addr := (fun K => ma K (ga K "Wants") "__init__") K
abbrev a_Wants_of (K : Frag) : Addr := (fun K => wf K (ga K "Wants") "classmethod" "of") K
abbrev a_Wants_len (K : Frag) : Addr := (fun K => ma K (ga K "Wants") "__len__") K
abbrev a_Wants_iter (K : Frag) : Addr := (fun K => ma K (ga K "Wants") "__iter__") K
abbrev a_Wants_getitem (K : Frag) : Addr := (fun K => ma K (ga K "Wants") "__getitem__") K
abbrev a_Wants_add (K : Frag) : Addr := (fun K => ma K (ga K "Wants") "__add__") K
abbrev a_Wants_mul (K : Frag) : Addr := (fun K => ma K (ga K "Wants") "__mul__") K
abbrev a_Wants_rmul (K : Frag) : Addr := (fun K => ma K (ga K "Wants") "__rmul__") K
abbrev a_Wants_lshift (K : Frag) : Addr := (fun K => ma K (ga K "Wants") "__lshift__") K
abbrev a_Wants_rshift (K : Frag) : Addr := (fun K => ma K (ga K "Wants") "__rshift__") K
abbrev a_Wants_neg (K : Frag) : Addr := (fun K => ma K (ga K "Wants") "__neg__") K
abbrev a_Wants_abs (K : Frag) : Addr := (fun K => ma K (ga K "Wants") "__abs__") K
abbrev a_law_pool (K : Frag) : Addr := (fun K => ga K "_law_pool") K
abbrev a_law_draw (K : Frag) : Addr := (fun K => ga K "_law_draw") K
abbrev a_law_comings (K : Frag) : Addr := (fun K => ga K "_law_comings") K
abbrev a_law_wants (K : Frag) : Addr := (fun K => ga K "_law_wants") K
abbrev a_law_size (K : Frag) : Addr := (fun K => ga K "_law_size") K
abbrev a_law_int (K : Frag) : Addr := (fun K => ga K "_law_int") K
abbrev a_law_same (K : Frag) : Addr := (fun K => ga K "_law_same") K
abbrev a_law_inside (K : Frag) : Addr := (fun K => ga K "_law_inside") K
abbrev a_law_ends (K : Frag) : Addr := (fun K => ga K "_law_ends") K
abbrev a_law_house (K : Frag) : Addr := (fun K => ga K "_law_house") K
abbrev a_law_odd_end (K : Frag) : Addr := (fun K => ga K "_law_odd_end") K
abbrev a_law_drawn_ends (K : Frag) : Addr := (fun K => ga K "_law_drawn_ends") K
abbrev a_law_fault (K : Frag) : Addr := (fun K => ga K "_law_fault") K
abbrev a_law_try (K : Frag) : Addr := (fun K => ga K "_law_try") K
abbrev a_law_due (K : Frag) : Addr := (fun K => ga K "_law_due") K
abbrev a_law_asked (K : Frag) : Addr := (fun K => ga K "_law_asked") K
abbrev a_law_reads (K : Frag) : Addr := (fun K => ga K "_law_reads") K
abbrev a_law (K : Frag) : Addr := (fun K => ga K "law") K
abbrev i_NoNight (K : Frag) : Addr := ma K (ga K "NoNight") "__init__"
abbrev i_NoPerson (K : Frag) : Addr := ma K (ga K "NoPerson") "__init__"
abbrev i_BadNumber (K : Frag) : Addr := ma K (ga K "BadNumber") "__init__"
abbrev i_TooLong (K : Frag) : Addr := ma K (ga K "TooLong") "__init__"
abbrev i_BadRest (K : Frag) : Addr := ma K (ga K "BadRest") "__init__"
abbrev i_BadComing (K : Frag) : Addr := ma K (ga K "BadComing") "__init__"
abbrev i_BadCover (K : Frag) : Addr := ma K (ga K "BadCover") "__init__"
abbrev n_wall : List Str := ["k"]
abbrev p_wall : List Str := ["k"]
theorem sc_wall : FnScope n_wall p_wall (defScope s_wall) := ⟨rfl, rfl, rfl, by decide +kernel, rfl, by decide +kernel, by decide +kernel⟩
abbrev n_check_count : List Str := ["count", "most"]
abbrev p_check_count : List Str := ["count", "most"]
theorem sc_check_count : FnScope n_check_count p_check_count (defScope s_check_count) := ⟨rfl, rfl, rfl, by decide +kernel, rfl, by decide +kernel, by decide +kernel⟩
abbrev n_check_number : List Str := ["place", "number", "greatest"]
abbrev p_check_number : List Str := ["place", "number", "greatest"]
theorem sc_check_number : FnScope n_check_number p_check_number (defScope s_check_number) := ⟨rfl, rfl, rfl, by decide +kernel, rfl, by decide +kernel, by decide +kernel⟩
abbrev n_check_numbers : List Str := ["numbers", "greatest", "index", "number"]
abbrev p_check_numbers : List Str := ["numbers", "greatest"]
theorem sc_check_numbers : FnScope n_check_numbers p_check_numbers (defScope s_check_numbers) := ⟨rfl, rfl, rfl, by decide +kernel, rfl, by decide +kernel, by decide +kernel⟩
abbrev n_check_not_negative : List Str := ["number"]
abbrev p_check_not_negative : List Str := ["number"]
theorem sc_check_not_negative : FnScope n_check_not_negative p_check_not_negative (defScope s_check_not_negative) := ⟨rfl, rfl, rfl, by decide +kernel, rfl, by decide +kernel, by decide +kernel⟩
abbrev n_check_rest : List Str := ["rest"]
abbrev p_check_rest : List Str := ["rest"]
theorem sc_check_rest : FnScope n_check_rest p_check_rest (defScope s_check_rest) := ⟨rfl, rfl, rfl, by decide +kernel, rfl, by decide +kernel, by decide +kernel⟩
abbrev n_check_night : List Str := ["night", "nights"]
abbrev p_check_night : List Str := ["night", "nights"]
theorem sc_check_night : FnScope n_check_night p_check_night (defScope s_check_night) := ⟨rfl, rfl, rfl, by decide +kernel, rfl, by decide +kernel, by decide +kernel⟩
abbrev n_check_person : List Str := ["house", "person"]
abbrev p_check_person : List Str := ["house", "person"]
theorem sc_check_person : FnScope n_check_person p_check_person (defScope s_check_person) := ⟨rfl, rfl, rfl, by decide +kernel, rfl, by decide +kernel, by decide +kernel⟩
abbrev n_Cover_init : List Str := ["self", "ends"]
abbrev p_Cover_init : List Str := ["self", "ends"]
theorem sc_Cover_init : FnScope n_Cover_init p_Cover_init (defScope s_Cover_init) := ⟨rfl, rfl, rfl, by decide +kernel, rfl, by decide +kernel, by decide +kernel⟩
abbrev n_Cover_len : List Str := ["self"]
abbrev p_Cover_len : List Str := ["self"]
theorem sc_Cover_len : FnScope n_Cover_len p_Cover_len (defScope s_Cover_len) := ⟨rfl, rfl, rfl, by decide +kernel, rfl, by decide +kernel, by decide +kernel⟩
abbrev n_Cover_iter : List Str := ["self"]
abbrev p_Cover_iter : List Str := ["self"]
theorem sc_Cover_iter : FnScope n_Cover_iter p_Cover_iter (defScope s_Cover_iter) := ⟨rfl, rfl, rfl, by decide +kernel, rfl, by decide +kernel, by decide +kernel⟩
abbrev n_Cover_contains : List Str := ["self", "x"]
abbrev p_Cover_contains : List Str := ["self", "x"]
theorem sc_Cover_contains : FnScope n_Cover_contains p_Cover_contains (defScope s_Cover_contains) := ⟨rfl, rfl, rfl, by decide +kernel, rfl, by decide +kernel, by decide +kernel⟩
abbrev n_most_stretches : List Str := ["house"]
abbrev p_most_stretches : List Str := ["house"]
theorem sc_most_stretches : FnScope n_most_stretches p_most_stretches (defScope s_most_stretches) := ⟨rfl, rfl, rfl, by decide +kernel, rfl, by decide +kernel, by decide +kernel⟩
abbrev n_cover_fault : List Str := ["house", "cover", "index", "end"]
abbrev p_cover_fault : List Str := ["house", "cover"]
theorem sc_cover_fault : FnScope n_cover_fault p_cover_fault (defScope s_cover_fault) := ⟨rfl, rfl, rfl, by decide +kernel, rfl, by decide +kernel, by decide +kernel⟩
abbrev n_check_cover : List Str := ["house", "cover", "fault"]
abbrev p_check_cover : List Str := ["house", "cover"]
theorem sc_check_cover : FnScope n_check_cover p_check_cover (defScope s_check_cover) := ⟨rfl, rfl, rfl, by decide +kernel, rfl, by decide +kernel, by decide +kernel⟩
abbrev n_outside_nights : List Str := ["house", "cover", "stretches", "night", "first", "end"]
abbrev p_outside_nights : List Str := ["house", "cover"]
theorem sc_outside_nights : FnScope n_outside_nights p_outside_nights (defScope s_outside_nights) := ⟨rfl, rfl, rfl, by decide +kernel, rfl, by decide +kernel, by decide +kernel⟩
abbrev n_stretches_of : List Str := ["house", "cover", "end"]
abbrev p_stretches_of : List Str := ["house", "cover"]
theorem sc_stretches_of : FnScope n_stretches_of p_stretches_of (defScope s_stretches_of) := ⟨rfl, rfl, rfl, by decide +kernel, rfl, by decide +kernel, by decide +kernel⟩
abbrev n_ends_from : List Str := ["house", "cover", "person", "end"]
abbrev p_ends_from : List Str := ["house", "cover", "person"]
theorem sc_ends_from : FnScope n_ends_from p_ends_from (defScope s_ends_from) := ⟨rfl, rfl, rfl, by decide +kernel, rfl, by decide +kernel, by decide +kernel⟩
abbrev n_House_init : List Str := ["self", "wants", "comings", "rest", "person", "coming"]
abbrev p_House_init : List Str := ["self", "wants", "comings", "rest"]
theorem sc_House_init : FnScope n_House_init p_House_init (defScope s_House_init) := ⟨rfl, rfl, rfl, by decide +kernel, rfl, by decide +kernel, by decide +kernel⟩
abbrev n_House_all_there : List Str := ["cls", "wants", "people", "rest"]
abbrev p_House_all_there : List Str := ["cls", "wants", "people", "rest"]
theorem sc_House_all_there : FnScope n_House_all_there p_House_all_there (defScope s_House_all_there) := ⟨rfl, rfl, rfl, by decide +kernel, rfl, by decide +kernel, by decide +kernel⟩
abbrev n_House_nights : List Str := ["self"]
abbrev p_House_nights : List Str := ["self"]
theorem sc_House_nights : FnScope n_House_nights p_House_nights (defScope s_House_nights) := ⟨rfl, rfl, rfl, by decide +kernel, rfl, by decide +kernel, by decide +kernel⟩
abbrev n_House_people : List Str := ["self"]
abbrev p_House_people : List Str := ["self"]
theorem sc_House_people : FnScope n_House_people p_House_people (defScope s_House_people) := ⟨rfl, rfl, rfl, by decide +kernel, rfl, by decide +kernel, by decide +kernel⟩
abbrev n_House_whole : List Str := ["self"]
abbrev p_House_whole : List Str := ["self"]
theorem sc_House_whole : FnScope n_House_whole p_House_whole (defScope s_House_whole) := ⟨rfl, rfl, rfl, by decide +kernel, rfl, by decide +kernel, by decide +kernel⟩
abbrev n_House_changed : List Str := ["self", "wants", "comings", "rest", "new_wants", "new_comings", "new_rest"]
abbrev p_House_changed : List Str := ["self", "wants", "comings", "rest"]
theorem sc_House_changed : FnScope n_House_changed p_House_changed (defScope s_House_changed) := ⟨rfl, rfl, rfl, by decide +kernel, rfl, by decide +kernel, by decide +kernel⟩
abbrev n_House_here : List Str := ["self", "night"]
abbrev p_House_here : List Str := ["self", "night"]
theorem sc_House_here : FnScope n_House_here p_House_here (defScope s_House_here) := ⟨rfl, rfl, rfl, by decide +kernel, rfl, by decide +kernel, by decide +kernel⟩
abbrev n_House_stretch : List Str := ["self", "end"]
abbrev p_House_stretch : List Str := ["self", "end"]
theorem sc_House_stretch : FnScope n_House_stretch p_House_stretch (defScope s_House_stretch) := ⟨rfl, rfl, rfl, by decide +kernel, rfl, by decide +kernel, by decide +kernel⟩
abbrev n_Wants_init : List Str := ["self", "numbers"]
abbrev p_Wants_init : List Str := ["self", "numbers"]
theorem sc_Wants_init : FnScope n_Wants_init p_Wants_init (defScope s_Wants_init) := ⟨rfl, rfl, rfl, by decide +kernel, rfl, by decide +kernel, by decide +kernel⟩
abbrev n_Wants_of : List Str := ["cls", "times", "numbers"]
abbrev p_Wants_of : List Str := ["cls", "times", "numbers"]
theorem sc_Wants_of : FnScope n_Wants_of p_Wants_of (defScope s_Wants_of) := ⟨rfl, rfl, rfl, by decide +kernel, rfl, by decide +kernel, by decide +kernel⟩
abbrev n_Wants_len : List Str := ["self"]
abbrev p_Wants_len : List Str := ["self"]
theorem sc_Wants_len : FnScope n_Wants_len p_Wants_len (defScope s_Wants_len) := ⟨rfl, rfl, rfl, by decide +kernel, rfl, by decide +kernel, by decide +kernel⟩
abbrev n_Wants_iter : List Str := ["self"]
abbrev p_Wants_iter : List Str := ["self"]
theorem sc_Wants_iter : FnScope n_Wants_iter p_Wants_iter (defScope s_Wants_iter) := ⟨rfl, rfl, rfl, by decide +kernel, rfl, by decide +kernel, by decide +kernel⟩
abbrev n_Wants_getitem : List Str := ["self", "at"]
abbrev p_Wants_getitem : List Str := ["self", "at"]
theorem sc_Wants_getitem : FnScope n_Wants_getitem p_Wants_getitem (defScope s_Wants_getitem) := ⟨rfl, rfl, rfl, by decide +kernel, rfl, by decide +kernel, by decide +kernel⟩
abbrev n_Wants_add : List Str := ["self", "other"]
abbrev p_Wants_add : List Str := ["self", "other"]
theorem sc_Wants_add : FnScope n_Wants_add p_Wants_add (defScope s_Wants_add) := ⟨rfl, rfl, rfl, by decide +kernel, rfl, by decide +kernel, by decide +kernel⟩
abbrev n_Wants_mul : List Str := ["self", "other", "nights"]
abbrev p_Wants_mul : List Str := ["self", "other"]
theorem sc_Wants_mul : FnScope n_Wants_mul p_Wants_mul (defScope s_Wants_mul) := ⟨rfl, rfl, rfl, by decide +kernel, rfl, by decide +kernel, by decide +kernel⟩
abbrev n_Wants_rmul : List Str := ["self", "other"]
abbrev p_Wants_rmul : List Str := ["self", "other"]
theorem sc_Wants_rmul : FnScope n_Wants_rmul p_Wants_rmul (defScope s_Wants_rmul) := ⟨rfl, rfl, rfl, by decide +kernel, rfl, by decide +kernel, by decide +kernel⟩
abbrev n_Wants_lshift : List Str := ["self", "other"]
abbrev p_Wants_lshift : List Str := ["self", "other"]
theorem sc_Wants_lshift : FnScope n_Wants_lshift p_Wants_lshift (defScope s_Wants_lshift) := ⟨rfl, rfl, rfl, by decide +kernel, rfl, by decide +kernel, by decide +kernel⟩
abbrev n_Wants_rshift : List Str := ["self", "other"]
abbrev p_Wants_rshift : List Str := ["self", "other"]
theorem sc_Wants_rshift : FnScope n_Wants_rshift p_Wants_rshift (defScope s_Wants_rshift) := ⟨rfl, rfl, rfl, by decide +kernel, rfl, by decide +kernel, by decide +kernel⟩
abbrev n_Wants_neg : List Str := ["self"]
abbrev p_Wants_neg : List Str := ["self"]
theorem sc_Wants_neg : FnScope n_Wants_neg p_Wants_neg (defScope s_Wants_neg) := ⟨rfl, rfl, rfl, by decide +kernel, rfl, by decide +kernel, by decide +kernel⟩
abbrev n_Wants_abs : List Str := ["self"]
abbrev p_Wants_abs : List Str := ["self"]
theorem sc_Wants_abs : FnScope n_Wants_abs p_Wants_abs (defScope s_Wants_abs) := ⟨rfl, rfl, rfl, by decide +kernel, rfl, by decide +kernel, by decide +kernel⟩
abbrev n_law_pool : List Str := ["script", "at", "cell"]
abbrev p_law_pool : List Str := ["script", "at"]
theorem sc_law_pool : FnScope n_law_pool p_law_pool (defScope s_law_pool) := ⟨rfl, rfl, rfl, by decide +kernel, rfl, by decide +kernel, by decide +kernel⟩
abbrev n_law_draw : List Str := ["pool", "many", "value", "mixed"]
abbrev p_law_draw : List Str := ["pool", "many"]
theorem sc_law_draw : FnScope n_law_draw p_law_draw (defScope s_law_draw) := ⟨rfl, rfl, rfl, by decide +kernel, rfl, by decide +kernel, by decide +kernel⟩
abbrev n_law_comings : List Str := ["pool", "people", "nights", "comings", "person", "night"]
abbrev p_law_comings : List Str := ["pool", "people", "nights"]
theorem sc_law_comings : FnScope n_law_comings p_law_comings (defScope s_law_comings) := ⟨rfl, rfl, rfl, by decide +kernel, rfl, by decide +kernel, by decide +kernel⟩
abbrev n_law_wants : List Str := ["pool", "nights", "most", "night"]
abbrev p_law_wants : List Str := ["pool", "nights", "most"]
theorem sc_law_wants : FnScope n_law_wants p_law_wants (defScope s_law_wants) := ⟨rfl, rfl, rfl, by decide +kernel, rfl, by decide +kernel, by decide +kernel⟩
abbrev n_law_size : List Str := ["pool", "most"]
abbrev p_law_size : List Str := ["pool", "most"]
theorem sc_law_size : FnScope n_law_size p_law_size (defScope s_law_size) := ⟨rfl, rfl, rfl, by decide +kernel, rfl, by decide +kernel, by decide +kernel⟩
abbrev n_law_int : List Str := ["x"]
abbrev p_law_int : List Str := ["x"]
theorem sc_law_int : FnScope n_law_int p_law_int (defScope s_law_int) := ⟨rfl, rfl, rfl, by decide +kernel, rfl, by decide +kernel, by decide +kernel⟩
abbrev n_law_same : List Str := ["got", "due", "place"]
abbrev p_law_same : List Str := ["got", "due"]
theorem sc_law_same : FnScope n_law_same p_law_same (defScope s_law_same) := ⟨rfl, rfl, rfl, by decide +kernel, rfl, by decide +kernel, by decide +kernel⟩
abbrev n_law_inside : List Str := ["ends", "gap", "night", "end"]
abbrev p_law_inside : List Str := ["ends", "gap", "night"]
theorem sc_law_inside : FnScope n_law_inside p_law_inside (defScope s_law_inside) := ⟨rfl, rfl, rfl, by decide +kernel, rfl, by decide +kernel, by decide +kernel⟩
abbrev n_law_ends : List Str := ["ends", "start", "end"]
abbrev p_law_ends : List Str := ["ends", "start"]
theorem sc_law_ends : FnScope n_law_ends p_law_ends (defScope s_law_ends) := ⟨rfl, rfl, rfl, by decide +kernel, rfl, by decide +kernel, by decide +kernel⟩
abbrev n_law_house : List Str := ["pool", "sizes", "nights", "people", "gap", "starts"]
abbrev p_law_house : List Str := ["pool"]
theorem sc_law_house : FnScope n_law_house p_law_house (defScope s_law_house) := ⟨rfl, rfl, rfl, by decide +kernel, rfl, by decide +kernel, by decide +kernel⟩
abbrev n_law_odd_end : List Str := ["pool", "nights", "way"]
abbrev p_law_odd_end : List Str := ["pool", "nights"]
theorem sc_law_odd_end : FnScope n_law_odd_end p_law_odd_end (defScope s_law_odd_end) := ⟨rfl, rfl, rfl, by decide +kernel, rfl, by decide +kernel, by decide +kernel⟩
abbrev n_law_drawn_ends : List Str := ["pool", "nights", "gap", "many", "place", "ends", "night"]
abbrev p_law_drawn_ends : List Str := ["pool", "nights", "gap"]
theorem sc_law_drawn_ends : FnScope n_law_drawn_ends p_law_drawn_ends (defScope s_law_drawn_ends) := ⟨rfl, rfl, rfl, by decide +kernel, rfl, by decide +kernel, by decide +kernel⟩
abbrev n_law_fault : List Str := ["ends", "nights", "gap", "place"]
abbrev p_law_fault : List Str := ["ends", "nights", "gap"]
theorem sc_law_fault : FnScope n_law_fault p_law_fault (defScope s_law_fault) := ⟨rfl, rfl, rfl, by decide +kernel, rfl, by decide +kernel, by decide +kernel⟩
abbrev n_law_try : List Str := ["way", "house", "cover", "person", "told", "word", "e"]
abbrev p_law_try : List Str := ["way", "house", "cover", "person"]
theorem sc_law_try : FnScope n_law_try p_law_try (defScope s_law_try) := ⟨rfl, rfl, rfl, by decide +kernel, rfl, by decide +kernel, by decide +kernel⟩
abbrev n_law_due : List Str := ["way", "part", "ends", "person", "nights", "fault", "night", "end"]
abbrev p_law_due : List Str := ["way", "part", "ends", "person"]
theorem sc_law_due : FnScope n_law_due p_law_due (defScope s_law_due) := ⟨rfl, rfl, rfl, by decide +kernel, rfl, by decide +kernel, by decide +kernel⟩
abbrev n_law_asked : List Str := ["house", "part", "cover", "ends", "fault", "way", "found", "handed", "person", "most", "night"]
abbrev p_law_asked : List Str := ["house", "part", "cover", "ends"]
theorem sc_law_asked : FnScope n_law_asked p_law_asked (defScope s_law_asked) := ⟨rfl, rfl, rfl, by decide +kernel, rfl, by decide +kernel, by decide +kernel⟩
abbrev n_law_reads : List Str := ["cover", "ends", "nights", "end", "number"]
abbrev p_law_reads : List Str := ["cover", "ends", "nights"]
theorem sc_law_reads : FnScope n_law_reads p_law_reads (defScope s_law_reads) := ⟨rfl, rfl, rfl, by decide +kernel, rfl, by decide +kernel, by decide +kernel⟩
abbrev n_law : List Str := ["script", "parts", "houses", "part", "ends", "given", "cover", "more_ends", "more", "turn", "side"]
abbrev p_law : List Str := ["script"]
theorem sc_law : FnScope n_law p_law (defScope s_law) := ⟨rfl, rfl, rfl, by decide +kernel, rfl, by decide +kernel, by decide +kernel⟩
theorem bi_wall {K : Frag} {fd : FuncData} (F : FunD K "_wall" "_wall" (defArgs s_wall) (defBody s_wall) (defScope s_wall) [] [] (a_wall K) fd) : Binds K fd p_wall [] := F.bindsN fun _ _ _ _ _ _ us hl => (match us, hl with | [_], _ => rfl)
theorem bi_check_count {K : Frag} {fd : FuncData} (F : FunD K "check_count" "check_count" (defArgs s_check_count) (defBody s_check_count) (defScope s_check_count) [] [] (a_check_count K) fd) : Binds K fd p_check_count [] := F.bindsN fun _ _ _ _ _ _ us hl => (match us, hl with | [_, _], _ => rfl)
theorem bi_check_number {K : Frag} {fd : FuncData} (F : FunD K "check_number" "check_number" (defArgs s_check_number) (defBody s_check_number) (defScope s_check_number) [] [] (a_check_number K) fd) : Binds K fd p_check_number [] := F.bindsN fun _ _ _ _ _ _ us hl => (match us, hl with | [_, _, _], _ => rfl)
theorem bi_check_numbers {K : Frag} {fd : FuncData} (F : FunD K "check_numbers" "check_numbers" (defArgs s_check_numbers) (defBody s_check_numbers) (defScope s_check_numbers) [] [] (a_check_numbers K) fd) : Binds K fd p_check_numbers [] := F.bindsN fun _ _ _ _ _ _ us hl => (match us, hl with | [_, _], _ => rfl)
theorem bi_check_not_negative {K : Frag} {fd : FuncData} (F : FunD K "check_not_negative" "check_not_negative" (defArgs s_check_not_negative) (defBody s_check_not_negative) (defScope s_check_not_negative) [] [] (a_check_not_negative K) fd) : Binds K fd p_check_not_negative [] := F.bindsN fun _ _ _ _ _ _ us hl => (match us, hl with | [_], _ => rfl)
theorem bi_check_rest {K : Frag} {fd : FuncData} (F : FunD K "check_rest" "check_rest" (defArgs s_check_rest) (defBody s_check_rest) (defScope s_check_rest) [] [] (a_check_rest K) fd) : Binds K fd p_check_rest [] := F.bindsN fun _ _ _ _ _ _ us hl => (match us, hl with | [_], _ => rfl)
theorem bi_check_night {K : Frag} {fd : FuncData} (F : FunD K "check_night" "check_night" (defArgs s_check_night) (defBody s_check_night) (defScope s_check_night) [] [] (a_check_night K) fd) : Binds K fd p_check_night [] := F.bindsN fun _ _ _ _ _ _ us hl => (match us, hl with | [_, _], _ => rfl)
theorem bi_check_person {K : Frag} {fd : FuncData} (F : FunD K "check_person" "check_person" (defArgs s_check_person) (defBody s_check_person) (defScope s_check_person) [] [] (a_check_person K) fd) : Binds K fd p_check_person [] := F.bindsN fun _ _ _ _ _ _ us hl => (match us, hl with | [_, _], _ => rfl)
theorem bi_Cover_init {K : Frag} {fd : FuncData} (F : FunD K "__init__" "Cover.__init__" (defArgs s_Cover_init) (defBody s_Cover_init) (defScope s_Cover_init) [] [] (a_Cover_init K) fd) : Binds K fd p_Cover_init [] := F.bindsN fun _ _ _ _ _ _ us hl => (match us, hl with | [_, _], _ => rfl)
theorem bi_Cover_len {K : Frag} {fd : FuncData} (F : FunD K "__len__" "Cover.__len__" (defArgs s_Cover_len) (defBody s_Cover_len) (defScope s_Cover_len) [] [] (a_Cover_len K) fd) : Binds K fd p_Cover_len [] := F.bindsN fun _ _ _ _ _ _ us hl => (match us, hl with | [_], _ => rfl)
theorem bi_Cover_iter {K : Frag} {fd : FuncData} (F : FunD K "__iter__" "Cover.__iter__" (defArgs s_Cover_iter) (defBody s_Cover_iter) (defScope s_Cover_iter) [] [] (a_Cover_iter K) fd) : Binds K fd p_Cover_iter [] := F.bindsN fun _ _ _ _ _ _ us hl => (match us, hl with | [_], _ => rfl)
theorem bi_Cover_contains {K : Frag} {fd : FuncData} (F : FunD K "__contains__" "Cover.__contains__" (defArgs s_Cover_contains) (defBody s_Cover_contains) (defScope s_Cover_contains) [] [] (a_Cover_contains K) fd) : Binds K fd p_Cover_contains [] := F.bindsN fun _ _ _ _ _ _ us hl => (match us, hl with | [_, _], _ => rfl)
theorem bi_most_stretches {K : Frag} {fd : FuncData} (F : FunD K "most_stretches" "most_stretches" (defArgs s_most_stretches) (defBody s_most_stretches) (defScope s_most_stretches) [] [] (a_most_stretches K) fd) : Binds K fd p_most_stretches [] := F.bindsN fun _ _ _ _ _ _ us hl => (match us, hl with | [_], _ => rfl)
theorem bi_cover_fault {K : Frag} {fd : FuncData} (F : FunD K "cover_fault" "cover_fault" (defArgs s_cover_fault) (defBody s_cover_fault) (defScope s_cover_fault) [] [] (a_cover_fault K) fd) : Binds K fd p_cover_fault [] := F.bindsN fun _ _ _ _ _ _ us hl => (match us, hl with | [_, _], _ => rfl)
theorem bi_check_cover {K : Frag} {fd : FuncData} (F : FunD K "check_cover" "check_cover" (defArgs s_check_cover) (defBody s_check_cover) (defScope s_check_cover) [] [] (a_check_cover K) fd) : Binds K fd p_check_cover [] := F.bindsN fun _ _ _ _ _ _ us hl => (match us, hl with | [_, _], _ => rfl)
theorem bi_outside_nights {K : Frag} {fd : FuncData} (F : FunD K "outside_nights" "outside_nights" (defArgs s_outside_nights) (defBody s_outside_nights) (defScope s_outside_nights) [] [] (a_outside_nights K) fd) : Binds K fd p_outside_nights [] := F.bindsN fun _ _ _ _ _ _ us hl => (match us, hl with | [_, _], _ => rfl)
theorem bi_stretches_of {K : Frag} {fd : FuncData} (F : FunD K "stretches_of" "stretches_of" (defArgs s_stretches_of) (defBody s_stretches_of) (defScope s_stretches_of) [] [] (a_stretches_of K) fd) : Binds K fd p_stretches_of [] := F.bindsN fun _ _ _ _ _ _ us hl => (match us, hl with | [_, _], _ => rfl)
theorem bi_ends_from {K : Frag} {fd : FuncData} (F : FunD K "ends_from" "ends_from" (defArgs s_ends_from) (defBody s_ends_from) (defScope s_ends_from) [] [] (a_ends_from K) fd) : Binds K fd p_ends_from [] := F.bindsN fun _ _ _ _ _ _ us hl => (match us, hl with | [_, _, _], _ => rfl)
theorem bi_House_nights {K : Frag} {fd : FuncData} (F : FunD K "nights" "House.nights" (defArgs s_House_nights) (defBody s_House_nights) (defScope s_House_nights) [] [] (a_House_nights K) fd) : Binds K fd p_House_nights [] := F.bindsN fun _ _ _ _ _ _ us hl => (match us, hl with | [_], _ => rfl)
theorem bi_House_people {K : Frag} {fd : FuncData} (F : FunD K "people" "House.people" (defArgs s_House_people) (defBody s_House_people) (defScope s_House_people) [] [] (a_House_people K) fd) : Binds K fd p_House_people [] := F.bindsN fun _ _ _ _ _ _ us hl => (match us, hl with | [_], _ => rfl)
theorem bi_House_whole {K : Frag} {fd : FuncData} (F : FunD K "whole" "House.whole" (defArgs s_House_whole) (defBody s_House_whole) (defScope s_House_whole) [] [] (a_House_whole K) fd) : Binds K fd p_House_whole [] := F.bindsN fun _ _ _ _ _ _ us hl => (match us, hl with | [_], _ => rfl)
theorem bi_House_here {K : Frag} {fd : FuncData} (F : FunD K "here" "House.here" (defArgs s_House_here) (defBody s_House_here) (defScope s_House_here) [] [] (a_House_here K) fd) : Binds K fd p_House_here [] := F.bindsN fun _ _ _ _ _ _ us hl => (match us, hl with | [_, _], _ => rfl)
theorem bi_House_stretch {K : Frag} {fd : FuncData} (F : FunD K "stretch" "House.stretch" (defArgs s_House_stretch) (defBody s_House_stretch) (defScope s_House_stretch) [] [] (a_House_stretch K) fd) : Binds K fd p_House_stretch [] := F.bindsN fun _ _ _ _ _ _ us hl => (match us, hl with | [_, _], _ => rfl)
theorem bi_Wants_init {K : Frag} {fd : FuncData} (F : FunD K "__init__" "Wants.__init__" (defArgs s_Wants_init) (defBody s_Wants_init) (defScope s_Wants_init) [] [] (a_Wants_init K) fd) : Binds K fd p_Wants_init [] := F.bindsN fun _ _ _ _ _ _ us hl => (match us, hl with | [_, _], _ => rfl)
theorem bi_Wants_len {K : Frag} {fd : FuncData} (F : FunD K "__len__" "Wants.__len__" (defArgs s_Wants_len) (defBody s_Wants_len) (defScope s_Wants_len) [] [] (a_Wants_len K) fd) : Binds K fd p_Wants_len [] := F.bindsN fun _ _ _ _ _ _ us hl => (match us, hl with | [_], _ => rfl)
theorem bi_Wants_iter {K : Frag} {fd : FuncData} (F : FunD K "__iter__" "Wants.__iter__" (defArgs s_Wants_iter) (defBody s_Wants_iter) (defScope s_Wants_iter) [] [] (a_Wants_iter K) fd) : Binds K fd p_Wants_iter [] := F.bindsN fun _ _ _ _ _ _ us hl => (match us, hl with | [_], _ => rfl)
theorem bi_Wants_getitem {K : Frag} {fd : FuncData} (F : FunD K "__getitem__" "Wants.__getitem__" (defArgs s_Wants_getitem) (defBody s_Wants_getitem) (defScope s_Wants_getitem) [] [] (a_Wants_getitem K) fd) : Binds K fd p_Wants_getitem [] := F.bindsN fun _ _ _ _ _ _ us hl => (match us, hl with | [_, _], _ => rfl)
theorem bi_Wants_add {K : Frag} {fd : FuncData} (F : FunD K "__add__" "Wants.__add__" (defArgs s_Wants_add) (defBody s_Wants_add) (defScope s_Wants_add) [] [] (a_Wants_add K) fd) : Binds K fd p_Wants_add [] := F.bindsN fun _ _ _ _ _ _ us hl => (match us, hl with | [_, _], _ => rfl)
theorem bi_Wants_mul {K : Frag} {fd : FuncData} (F : FunD K "__mul__" "Wants.__mul__" (defArgs s_Wants_mul) (defBody s_Wants_mul) (defScope s_Wants_mul) [] [] (a_Wants_mul K) fd) : Binds K fd p_Wants_mul [] := F.bindsN fun _ _ _ _ _ _ us hl => (match us, hl with | [_, _], _ => rfl)
theorem bi_Wants_rmul {K : Frag} {fd : FuncData} (F : FunD K "__rmul__" "Wants.__rmul__" (defArgs s_Wants_rmul) (defBody s_Wants_rmul) (defScope s_Wants_rmul) [] [] (a_Wants_rmul K) fd) : Binds K fd p_Wants_rmul [] := F.bindsN fun _ _ _ _ _ _ us hl => (match us, hl with | [_, _], _ => rfl)
theorem bi_Wants_lshift {K : Frag} {fd : FuncData} (F : FunD K "__lshift__" "Wants.__lshift__" (defArgs s_Wants_lshift) (defBody s_Wants_lshift) (defScope s_Wants_lshift) [] [] (a_Wants_lshift K) fd) : Binds K fd p_Wants_lshift [] := F.bindsN fun _ _ _ _ _ _ us hl => (match us, hl with | [_, _], _ => rfl)
theorem bi_Wants_rshift {K : Frag} {fd : FuncData} (F : FunD K "__rshift__" "Wants.__rshift__" (defArgs s_Wants_rshift) (defBody s_Wants_rshift) (defScope s_Wants_rshift) [] [] (a_Wants_rshift K) fd) : Binds K fd p_Wants_rshift [] := F.bindsN fun _ _ _ _ _ _ us hl => (match us, hl with | [_, _], _ => rfl)
theorem bi_Wants_neg {K : Frag} {fd : FuncData} (F : FunD K "__neg__" "Wants.__neg__" (defArgs s_Wants_neg) (defBody s_Wants_neg) (defScope s_Wants_neg) [] [] (a_Wants_neg K) fd) : Binds K fd p_Wants_neg [] := F.bindsN fun _ _ _ _ _ _ us hl => (match us, hl with | [_], _ => rfl)
theorem bi_Wants_abs {K : Frag} {fd : FuncData} (F : FunD K "__abs__" "Wants.__abs__" (defArgs s_Wants_abs) (defBody s_Wants_abs) (defScope s_Wants_abs) [] [] (a_Wants_abs K) fd) : Binds K fd p_Wants_abs [] := F.bindsN fun _ _ _ _ _ _ us hl => (match us, hl with | [_], _ => rfl)
theorem bi_law_pool {K : Frag} {fd : FuncData} (F : FunD K "_law_pool" "_law_pool" (defArgs s_law_pool) (defBody s_law_pool) (defScope s_law_pool) [] [] (a_law_pool K) fd) : Binds K fd p_law_pool [] := F.bindsN fun _ _ _ _ _ _ us hl => (match us, hl with | [_, _], _ => rfl)
theorem bi_law_draw {K : Frag} {fd : FuncData} (F : FunD K "_law_draw" "_law_draw" (defArgs s_law_draw) (defBody s_law_draw) (defScope s_law_draw) [] [] (a_law_draw K) fd) : Binds K fd p_law_draw [] := F.bindsN fun _ _ _ _ _ _ us hl => (match us, hl with | [_, _], _ => rfl)
theorem bi_law_comings {K : Frag} {fd : FuncData} (F : FunD K "_law_comings" "_law_comings" (defArgs s_law_comings) (defBody s_law_comings) (defScope s_law_comings) [] [] (a_law_comings K) fd) : Binds K fd p_law_comings [] := F.bindsN fun _ _ _ _ _ _ us hl => (match us, hl with | [_, _, _], _ => rfl)
theorem bi_law_wants {K : Frag} {fd : FuncData} (F : FunD K "_law_wants" "_law_wants" (defArgs s_law_wants) (defBody s_law_wants) (defScope s_law_wants) [] [] (a_law_wants K) fd) : Binds K fd p_law_wants [] := F.bindsN fun _ _ _ _ _ _ us hl => (match us, hl with | [_, _, _], _ => rfl)
theorem bi_law_size {K : Frag} {fd : FuncData} (F : FunD K "_law_size" "_law_size" (defArgs s_law_size) (defBody s_law_size) (defScope s_law_size) [] [] (a_law_size K) fd) : Binds K fd p_law_size [] := F.bindsN fun _ _ _ _ _ _ us hl => (match us, hl with | [_, _], _ => rfl)
theorem bi_law_int {K : Frag} {fd : FuncData} (F : FunD K "_law_int" "_law_int" (defArgs s_law_int) (defBody s_law_int) (defScope s_law_int) [] [] (a_law_int K) fd) : Binds K fd p_law_int [] := F.bindsN fun _ _ _ _ _ _ us hl => (match us, hl with | [_], _ => rfl)
theorem bi_law_same {K : Frag} {fd : FuncData} (F : FunD K "_law_same" "_law_same" (defArgs s_law_same) (defBody s_law_same) (defScope s_law_same) [] [] (a_law_same K) fd) : Binds K fd p_law_same [] := F.bindsN fun _ _ _ _ _ _ us hl => (match us, hl with | [_, _], _ => rfl)
theorem bi_law_inside {K : Frag} {fd : FuncData} (F : FunD K "_law_inside" "_law_inside" (defArgs s_law_inside) (defBody s_law_inside) (defScope s_law_inside) [] [] (a_law_inside K) fd) : Binds K fd p_law_inside [] := F.bindsN fun _ _ _ _ _ _ us hl => (match us, hl with | [_, _, _], _ => rfl)
theorem bi_law_ends {K : Frag} {fd : FuncData} (F : FunD K "_law_ends" "_law_ends" (defArgs s_law_ends) (defBody s_law_ends) (defScope s_law_ends) [] [] (a_law_ends K) fd) : Binds K fd p_law_ends [] := F.bindsN fun _ _ _ _ _ _ us hl => (match us, hl with | [_, _], _ => rfl)
theorem bi_law_house {K : Frag} {fd : FuncData} (F : FunD K "_law_house" "_law_house" (defArgs s_law_house) (defBody s_law_house) (defScope s_law_house) [] [] (a_law_house K) fd) : Binds K fd p_law_house [] := F.bindsN fun _ _ _ _ _ _ us hl => (match us, hl with | [_], _ => rfl)
theorem bi_law_odd_end {K : Frag} {fd : FuncData} (F : FunD K "_law_odd_end" "_law_odd_end" (defArgs s_law_odd_end) (defBody s_law_odd_end) (defScope s_law_odd_end) [] [] (a_law_odd_end K) fd) : Binds K fd p_law_odd_end [] := F.bindsN fun _ _ _ _ _ _ us hl => (match us, hl with | [_, _], _ => rfl)
theorem bi_law_drawn_ends {K : Frag} {fd : FuncData} (F : FunD K "_law_drawn_ends" "_law_drawn_ends" (defArgs s_law_drawn_ends) (defBody s_law_drawn_ends) (defScope s_law_drawn_ends) [] [] (a_law_drawn_ends K) fd) : Binds K fd p_law_drawn_ends [] := F.bindsN fun _ _ _ _ _ _ us hl => (match us, hl with | [_, _, _], _ => rfl)
theorem bi_law_fault {K : Frag} {fd : FuncData} (F : FunD K "_law_fault" "_law_fault" (defArgs s_law_fault) (defBody s_law_fault) (defScope s_law_fault) [] [] (a_law_fault K) fd) : Binds K fd p_law_fault [] := F.bindsN fun _ _ _ _ _ _ us hl => (match us, hl with | [_, _, _], _ => rfl)
theorem bi_law_try {K : Frag} {fd : FuncData} (F : FunD K "_law_try" "_law_try" (defArgs s_law_try) (defBody s_law_try) (defScope s_law_try) [] [] (a_law_try K) fd) : Binds K fd p_law_try [] := F.bindsN fun _ _ _ _ _ _ us hl => (match us, hl with | [_, _, _, _], _ => rfl)
theorem bi_law_due {K : Frag} {fd : FuncData} (F : FunD K "_law_due" "_law_due" (defArgs s_law_due) (defBody s_law_due) (defScope s_law_due) [] [] (a_law_due K) fd) : Binds K fd p_law_due [] := F.bindsN fun _ _ _ _ _ _ us hl => (match us, hl with | [_, _, _, _], _ => rfl)
theorem bi_law_asked {K : Frag} {fd : FuncData} (F : FunD K "_law_asked" "_law_asked" (defArgs s_law_asked) (defBody s_law_asked) (defScope s_law_asked) [] [] (a_law_asked K) fd) : Binds K fd p_law_asked [] := F.bindsN fun _ _ _ _ _ _ us hl => (match us, hl with | [_, _, _, _], _ => rfl)
theorem bi_law_reads {K : Frag} {fd : FuncData} (F : FunD K "_law_reads" "_law_reads" (defArgs s_law_reads) (defBody s_law_reads) (defScope s_law_reads) [] [] (a_law_reads K) fd) : Binds K fd p_law_reads [] := F.bindsN fun _ _ _ _ _ _ us hl => (match us, hl with | [_, _, _], _ => rfl)
theorem bi_law {K : Frag} {fd : FuncData} (F : FunD K "law" "law" (defArgs s_law) (defBody s_law) (defScope s_law) [] [] (a_law K) fd) : Binds K fd p_law [] := F.bindsN fun _ _ _ _ _ _ us hl => (match us, hl with | [_], _ => rfl)
structure Tx (K : Frag) (mg : Str → Option Value) : Prop where
  any : nsIn K cStatics "thirdparty.any" = some none
  m_super : mg "super" = none
  m_len : mg "len" = none
  m_enumerate : mg "enumerate" = none
  m_tuple : mg "tuple" = none
  m_sum : mg "sum" = none
  m_abs : mg "abs" = none
  m_int : mg "int" = none
  m_range : mg "range" = none
  m_isinstance : mg "isinstance" = none
  m_bool : mg "bool" = none
  m_str : mg "str" = none
  m_list : mg "list" = none
  m_max : mg "max" = none
  m_min : mg "min" = none
  m_zip : mg "zip" = none
  m_iter : mg "iter" = none
  m_ValueError : mg "ValueError" = none
  m_any : mg "any" = none
  g_wall : mg "_wall" = some (.ref (a_wall K))
  g_check_count : mg "check_count" = some (.ref (a_check_count K))
  g_check_number : mg "check_number" = some (.ref (a_check_number K))
  g_check_numbers : mg "check_numbers" = some (.ref (a_check_numbers K))
  g_check_not_negative : mg "check_not_negative" = some (.ref (a_check_not_negative K))
  g_check_rest : mg "check_rest" = some (.ref (a_check_rest K))
  g_check_night : mg "check_night" = some (.ref (a_check_night K))
  g_check_person : mg "check_person" = some (.ref (a_check_person K))
  g_most_stretches : mg "most_stretches" = some (.ref (a_most_stretches K))
  g_cover_fault : mg "cover_fault" = some (.ref (a_cover_fault K))
  g_check_cover : mg "check_cover" = some (.ref (a_check_cover K))
  g_outside_nights : mg "outside_nights" = some (.ref (a_outside_nights K))
  g_stretches_of : mg "stretches_of" = some (.ref (a_stretches_of K))
  g_ends_from : mg "ends_from" = some (.ref (a_ends_from K))
  g_law_pool : mg "_law_pool" = some (.ref (a_law_pool K))
  g_law_draw : mg "_law_draw" = some (.ref (a_law_draw K))
  g_law_comings : mg "_law_comings" = some (.ref (a_law_comings K))
  g_law_wants : mg "_law_wants" = some (.ref (a_law_wants K))
  g_law_size : mg "_law_size" = some (.ref (a_law_size K))
  g_law_int : mg "_law_int" = some (.ref (a_law_int K))
  g_law_same : mg "_law_same" = some (.ref (a_law_same K))
  g_law_inside : mg "_law_inside" = some (.ref (a_law_inside K))
  g_law_ends : mg "_law_ends" = some (.ref (a_law_ends K))
  g_law_house : mg "_law_house" = some (.ref (a_law_house K))
  g_law_odd_end : mg "_law_odd_end" = some (.ref (a_law_odd_end K))
  g_law_drawn_ends : mg "_law_drawn_ends" = some (.ref (a_law_drawn_ends K))
  g_law_fault : mg "_law_fault" = some (.ref (a_law_fault K))
  g_law_try : mg "_law_try" = some (.ref (a_law_try K))
  g_law_due : mg "_law_due" = some (.ref (a_law_due K))
  g_law_asked : mg "_law_asked" = some (.ref (a_law_asked K))
  g_law_reads : mg "_law_reads" = some (.ref (a_law_reads K))
  g_law : mg "law" = some (.ref (a_law K))
  f_wall : ∃ fd, FunD K "_wall" "_wall" (defArgs s_wall) (defBody s_wall) (defScope s_wall) [] [] (a_wall K) fd
  f_check_count : ∃ fd, FunD K "check_count" "check_count" (defArgs s_check_count) (defBody s_check_count) (defScope s_check_count) [] [] (a_check_count K) fd
  f_check_number : ∃ fd, FunD K "check_number" "check_number" (defArgs s_check_number) (defBody s_check_number) (defScope s_check_number) [] [] (a_check_number K) fd
  f_check_numbers : ∃ fd, FunD K "check_numbers" "check_numbers" (defArgs s_check_numbers) (defBody s_check_numbers) (defScope s_check_numbers) [] [] (a_check_numbers K) fd
  f_check_not_negative : ∃ fd, FunD K "check_not_negative" "check_not_negative" (defArgs s_check_not_negative) (defBody s_check_not_negative) (defScope s_check_not_negative) [] [] (a_check_not_negative K) fd
  f_check_rest : ∃ fd, FunD K "check_rest" "check_rest" (defArgs s_check_rest) (defBody s_check_rest) (defScope s_check_rest) [] [] (a_check_rest K) fd
  f_check_night : ∃ fd, FunD K "check_night" "check_night" (defArgs s_check_night) (defBody s_check_night) (defScope s_check_night) [] [] (a_check_night K) fd
  f_check_person : ∃ fd, FunD K "check_person" "check_person" (defArgs s_check_person) (defBody s_check_person) (defScope s_check_person) [] [] (a_check_person K) fd
  f_Cover_init : ∃ fd, FunD K "__init__" "Cover.__init__" (defArgs s_Cover_init) (defBody s_Cover_init) (defScope s_Cover_init) [] [] (a_Cover_init K) fd
  f_Cover_len : ∃ fd, FunD K "__len__" "Cover.__len__" (defArgs s_Cover_len) (defBody s_Cover_len) (defScope s_Cover_len) [] [] (a_Cover_len K) fd
  f_Cover_iter : ∃ fd, FunD K "__iter__" "Cover.__iter__" (defArgs s_Cover_iter) (defBody s_Cover_iter) (defScope s_Cover_iter) [] [] (a_Cover_iter K) fd
  f_Cover_contains : ∃ fd, FunD K "__contains__" "Cover.__contains__" (defArgs s_Cover_contains) (defBody s_Cover_contains) (defScope s_Cover_contains) [] [] (a_Cover_contains K) fd
  f_most_stretches : ∃ fd, FunD K "most_stretches" "most_stretches" (defArgs s_most_stretches) (defBody s_most_stretches) (defScope s_most_stretches) [] [] (a_most_stretches K) fd
  f_cover_fault : ∃ fd, FunD K "cover_fault" "cover_fault" (defArgs s_cover_fault) (defBody s_cover_fault) (defScope s_cover_fault) [] [] (a_cover_fault K) fd
  f_check_cover : ∃ fd, FunD K "check_cover" "check_cover" (defArgs s_check_cover) (defBody s_check_cover) (defScope s_check_cover) [] [] (a_check_cover K) fd
  f_outside_nights : ∃ fd, FunD K "outside_nights" "outside_nights" (defArgs s_outside_nights) (defBody s_outside_nights) (defScope s_outside_nights) [] [] (a_outside_nights K) fd
  f_stretches_of : ∃ fd, FunD K "stretches_of" "stretches_of" (defArgs s_stretches_of) (defBody s_stretches_of) (defScope s_stretches_of) [] [] (a_stretches_of K) fd
  f_ends_from : ∃ fd, FunD K "ends_from" "ends_from" (defArgs s_ends_from) (defBody s_ends_from) (defScope s_ends_from) [] [] (a_ends_from K) fd
  f_House_init : ∃ fd, FunD K "__init__" "House.__init__" (defArgs s_House_init) (defBody s_House_init) (defScope s_House_init) [] [("rest", .int 1)] (a_House_init K) fd
  f_House_all_there : ∃ fd, FunD K "all_there" "House.all_there" (defArgs s_House_all_there) (defBody s_House_all_there) (defScope s_House_all_there) [] [("rest", .int 1)] (a_House_all_there K) fd
  f_House_nights : ∃ fd, FunD K "nights" "House.nights" (defArgs s_House_nights) (defBody s_House_nights) (defScope s_House_nights) [] [] (a_House_nights K) fd
  f_House_people : ∃ fd, FunD K "people" "House.people" (defArgs s_House_people) (defBody s_House_people) (defScope s_House_people) [] [] (a_House_people K) fd
  f_House_whole : ∃ fd, FunD K "whole" "House.whole" (defArgs s_House_whole) (defBody s_House_whole) (defScope s_House_whole) [] [] (a_House_whole K) fd
  f_House_changed : ∃ fd, FunD K "changed" "House.changed" (defArgs s_House_changed) (defBody s_House_changed) (defScope s_House_changed) [] [("wants", .non), ("comings", .non), ("rest", .non)] (a_House_changed K) fd
  f_House_here : ∃ fd, FunD K "here" "House.here" (defArgs s_House_here) (defBody s_House_here) (defScope s_House_here) [] [] (a_House_here K) fd
  f_House_stretch : ∃ fd, FunD K "stretch" "House.stretch" (defArgs s_House_stretch) (defBody s_House_stretch) (defScope s_House_stretch) [] [] (a_House_stretch K) fd
  f_Wants_init : ∃ fd, FunD K "__init__" "Wants.__init__" (defArgs s_Wants_init) (defBody s_Wants_init) (defScope s_Wants_init) [] [] (a_Wants_init K) fd
  f_Wants_of : ∃ fd, FunD K "of" "Wants.of" (defArgs s_Wants_of) (defBody s_Wants_of) (defScope s_Wants_of) [] [("times", .int 1)] (a_Wants_of K) fd
  f_Wants_len : ∃ fd, FunD K "__len__" "Wants.__len__" (defArgs s_Wants_len) (defBody s_Wants_len) (defScope s_Wants_len) [] [] (a_Wants_len K) fd
  f_Wants_iter : ∃ fd, FunD K "__iter__" "Wants.__iter__" (defArgs s_Wants_iter) (defBody s_Wants_iter) (defScope s_Wants_iter) [] [] (a_Wants_iter K) fd
  f_Wants_getitem : ∃ fd, FunD K "__getitem__" "Wants.__getitem__" (defArgs s_Wants_getitem) (defBody s_Wants_getitem) (defScope s_Wants_getitem) [] [] (a_Wants_getitem K) fd
  f_Wants_add : ∃ fd, FunD K "__add__" "Wants.__add__" (defArgs s_Wants_add) (defBody s_Wants_add) (defScope s_Wants_add) [] [] (a_Wants_add K) fd
  f_Wants_mul : ∃ fd, FunD K "__mul__" "Wants.__mul__" (defArgs s_Wants_mul) (defBody s_Wants_mul) (defScope s_Wants_mul) [] [] (a_Wants_mul K) fd
  f_Wants_rmul : ∃ fd, FunD K "__rmul__" "Wants.__rmul__" (defArgs s_Wants_rmul) (defBody s_Wants_rmul) (defScope s_Wants_rmul) [] [] (a_Wants_rmul K) fd
  f_Wants_lshift : ∃ fd, FunD K "__lshift__" "Wants.__lshift__" (defArgs s_Wants_lshift) (defBody s_Wants_lshift) (defScope s_Wants_lshift) [] [] (a_Wants_lshift K) fd
  f_Wants_rshift : ∃ fd, FunD K "__rshift__" "Wants.__rshift__" (defArgs s_Wants_rshift) (defBody s_Wants_rshift) (defScope s_Wants_rshift) [] [] (a_Wants_rshift K) fd
  f_Wants_neg : ∃ fd, FunD K "__neg__" "Wants.__neg__" (defArgs s_Wants_neg) (defBody s_Wants_neg) (defScope s_Wants_neg) [] [] (a_Wants_neg K) fd
  f_Wants_abs : ∃ fd, FunD K "__abs__" "Wants.__abs__" (defArgs s_Wants_abs) (defBody s_Wants_abs) (defScope s_Wants_abs) [] [] (a_Wants_abs K) fd
  f_law_pool : ∃ fd, FunD K "_law_pool" "_law_pool" (defArgs s_law_pool) (defBody s_law_pool) (defScope s_law_pool) [] [] (a_law_pool K) fd
  f_law_draw : ∃ fd, FunD K "_law_draw" "_law_draw" (defArgs s_law_draw) (defBody s_law_draw) (defScope s_law_draw) [] [] (a_law_draw K) fd
  f_law_comings : ∃ fd, FunD K "_law_comings" "_law_comings" (defArgs s_law_comings) (defBody s_law_comings) (defScope s_law_comings) [] [] (a_law_comings K) fd
  f_law_wants : ∃ fd, FunD K "_law_wants" "_law_wants" (defArgs s_law_wants) (defBody s_law_wants) (defScope s_law_wants) [] [] (a_law_wants K) fd
  f_law_size : ∃ fd, FunD K "_law_size" "_law_size" (defArgs s_law_size) (defBody s_law_size) (defScope s_law_size) [] [] (a_law_size K) fd
  f_law_int : ∃ fd, FunD K "_law_int" "_law_int" (defArgs s_law_int) (defBody s_law_int) (defScope s_law_int) [] [] (a_law_int K) fd
  f_law_same : ∃ fd, FunD K "_law_same" "_law_same" (defArgs s_law_same) (defBody s_law_same) (defScope s_law_same) [] [] (a_law_same K) fd
  f_law_inside : ∃ fd, FunD K "_law_inside" "_law_inside" (defArgs s_law_inside) (defBody s_law_inside) (defScope s_law_inside) [] [] (a_law_inside K) fd
  f_law_ends : ∃ fd, FunD K "_law_ends" "_law_ends" (defArgs s_law_ends) (defBody s_law_ends) (defScope s_law_ends) [] [] (a_law_ends K) fd
  f_law_house : ∃ fd, FunD K "_law_house" "_law_house" (defArgs s_law_house) (defBody s_law_house) (defScope s_law_house) [] [] (a_law_house K) fd
  f_law_odd_end : ∃ fd, FunD K "_law_odd_end" "_law_odd_end" (defArgs s_law_odd_end) (defBody s_law_odd_end) (defScope s_law_odd_end) [] [] (a_law_odd_end K) fd
  f_law_drawn_ends : ∃ fd, FunD K "_law_drawn_ends" "_law_drawn_ends" (defArgs s_law_drawn_ends) (defBody s_law_drawn_ends) (defScope s_law_drawn_ends) [] [] (a_law_drawn_ends K) fd
  f_law_fault : ∃ fd, FunD K "_law_fault" "_law_fault" (defArgs s_law_fault) (defBody s_law_fault) (defScope s_law_fault) [] [] (a_law_fault K) fd
  f_law_try : ∃ fd, FunD K "_law_try" "_law_try" (defArgs s_law_try) (defBody s_law_try) (defScope s_law_try) [] [] (a_law_try K) fd
  f_law_due : ∃ fd, FunD K "_law_due" "_law_due" (defArgs s_law_due) (defBody s_law_due) (defScope s_law_due) [] [] (a_law_due K) fd
  f_law_asked : ∃ fd, FunD K "_law_asked" "_law_asked" (defArgs s_law_asked) (defBody s_law_asked) (defScope s_law_asked) [] [] (a_law_asked K) fd
  f_law_reads : ∃ fd, FunD K "_law_reads" "_law_reads" (defArgs s_law_reads) (defBody s_law_reads) (defScope s_law_reads) [] [] (a_law_reads K) fd
  f_law : ∃ fd, FunD K "law" "law" (defArgs s_law) (defBody s_law) (defScope s_law) [] [] (a_law K) fd
  e_NoNight : Exn PG K mg "NoNight" (c_NoNight K) (i_NoNight K) ["night"] [("night", "night")]
  e_NoPerson : Exn PG K mg "NoPerson" (c_NoPerson K) (i_NoPerson K) ["person"] [("person", "person")]
  e_BadNumber : Exn PG K mg "BadNumber" (c_BadNumber K) (i_BadNumber K) ["place", "number"] [("place", "place"), ("number", "number")]
  e_TooLong : Exn PG K mg "TooLong" (c_TooLong K) (i_TooLong K) ["count"] [("count", "count")]
  e_BadRest : Exn PG K mg "BadRest" (c_BadRest K) (i_BadRest K) ["rest"] [("rest", "rest")]
  e_BadComing : Exn PG K mg "BadComing" (c_BadComing K) (i_BadComing K) ["person", "coming"] [("person", "person"), ("coming", "coming")]
  e_BadCover : Exn PG K mg "BadCover" (c_BadCover K) (i_BadCover K) ["fault"] [("fault", "fault")]
  cHouse : Cls K (c_House K)
  gHouse : mg "House" = some (.ref (c_House K))
  tHouse : EF.ClsT K (c_House K)
  kHouse : Mk K (c_House K) (a_House_init K)
  nHouse_wants : NoAttr K (c_House K) "wants"
  nHouse_comings : NoAttr K (c_House K) "comings"
  nHouse_rest : NoAttr K (c_House K) "rest"
  cWants : Cls K (c_Wants K)
  gWants : mg "Wants" = some (.ref (c_Wants K))
  tWants : EF.ClsT K (c_Wants K)
  kWants : Mk K (c_Wants K) (a_Wants_init K)
  nWants_numbers : NoAttr K (c_Wants K) "numbers"
  cCover : Cls K (c_Cover K)
  gCover : mg "Cover" = some (.ref (c_Cover K))
  tCover : EF.ClsT K (c_Cover K)
  kCover : Mk K (c_Cover K) (a_Cover_init K)
  nCover_ends : NoAttr K (c_Cover K) "ends"
  rHouse : ClX.CRead K (c_House K) FB.mT
  rWants : ClX.CRead K (c_Wants K) FB.mT
  vWants_MOST : ∃ u, ClX.CVal K (c_Wants K) FB.mT "MOST" (.int 60) u
  vWants_GREATEST : ∃ u, ClX.CVal K (c_Wants K) FB.mT "GREATEST" (.int 30) u
  v_MOST_PEOPLE : ∃ t, mg "MOST_PEOPLE" = some (.int 30 t)
  v_GREATEST_REST : ∃ t, mg "GREATEST_REST" = some (.int 60 t)
  wWants_len : findIn K (.ref (c_Wants K)) "__len__" = some (some (.ref (a_Wants_len K))) ∧ isFn K (.ref (a_Wants_len K)) = true
  wWants_abs : findIn K (.ref (c_Wants K)) "__abs__" = some (some (.ref (a_Wants_abs K))) ∧ isFn K (.ref (a_Wants_abs K)) = true
  wWants_iter : findIn K (.ref (c_Wants K)) "__iter__" = some (some (.ref (a_Wants_iter K))) ∧ isFn K (.ref (a_Wants_iter K)) = true
  wWants_getitem : findIn K (.ref (c_Wants K)) "__getitem__" = some (some (.ref (a_Wants_getitem K))) ∧ isFn K (.ref (a_Wants_getitem K)) = true
  wCover_len : findIn K (.ref (c_Cover K)) "__len__" = some (some (.ref (a_Cover_len K))) ∧ isFn K (.ref (a_Cover_len K)) = true
  wCover_iter : findIn K (.ref (c_Cover K)) "__iter__" = some (some (.ref (a_Cover_iter K))) ∧ isFn K (.ref (a_Cover_iter K)) = true
  wCover_contains : findIn K (.ref (c_Cover K)) "__contains__" = some (some (.ref (a_Cover_contains K))) ∧ isFn K (.ref (a_Cover_contains K)) = true
  iWants_getitem : OwnIx K (c_Wants K) (a_Wants_getitem K)
  wHouse_nights : PropOf K (c_House K) "nights" (propObj K (c_House K) "nights") (a_House_nights K)
  wHouse_people : PropOf K (c_House K) "people" (propObj K (c_House K) "people") (a_House_people K)
  wHouse_stretch : Meth K (c_House K) "stretch" (a_House_stretch K)
  gNightsError : mg "NightsError" = some (.ref (c_NightsError K))
  xNoNight : XfC K (c_NoNight K) ∧ ExcC K (c_NoNight K)
  nNoNight_night : findIn K (.ref (c_NoNight K)) "night" = some none
  xBadNumber : XfC K (c_BadNumber K) ∧ ExcC K (c_BadNumber K)
  nBadNumber_place : findIn K (.ref (c_BadNumber K)) "place" = some none
  nBadNumber_number : findIn K (.ref (c_BadNumber K)) "number" = some none
  xTooLong : XfC K (c_TooLong K) ∧ ExcC K (c_TooLong K)
  nTooLong_count : findIn K (.ref (c_TooLong K)) "count" = some none
  xBadRest : XfC K (c_BadRest K) ∧ ExcC K (c_BadRest K)
  nBadRest_rest : findIn K (.ref (c_BadRest K)) "rest" = some none
  xBadComing : XfC K (c_BadComing K) ∧ ExcC K (c_BadComing K)
  nBadComing_person : findIn K (.ref (c_BadComing K)) "person" = some none
  nBadComing_coming : findIn K (.ref (c_BadComing K)) "coming" = some none
  xNoPerson : XfC K (c_NoPerson K) ∧ ExcC K (c_NoPerson K)
  nNoPerson_person : findIn K (.ref (c_NoPerson K)) "person" = some none
  xBadCover : XfC K (c_BadCover K) ∧ ExcC K (c_BadCover K)
  nBadCover_fault : findIn K (.ref (c_BadCover K)) "fault" = some none
  mNoPerson_NoPerson : exmOne K (.ref (c_NoPerson K)) (.ref (c_NoPerson K)) = some true
  mNoPerson_BadCover : exmOne K (.ref (c_NoPerson K)) (.ref (c_BadCover K)) = some false
  kNoPerson_NightsError : kitOne K (.ref (c_NoPerson K)) (.ref (c_NightsError K)) = some true
  kNoPerson_ValueError : kitOne K (.ref (c_NoPerson K)) (.type "ValueError") = some true
  mBadCover_NoPerson : exmOne K (.ref (c_BadCover K)) (.ref (c_NoPerson K)) = some false
  mBadCover_BadCover : exmOne K (.ref (c_BadCover K)) (.ref (c_BadCover K)) = some true
  kBadCover_NightsError : kitOne K (.ref (c_BadCover K)) (.ref (c_NightsError K)) = some true
  kBadCover_ValueError : kitOne K (.ref (c_BadCover K)) (.type "ValueError") = some true
  kBadCover_NoPerson : kitOne K (.ref (c_BadCover K)) (.ref (c_NoPerson K)) = some false
theorem tx_of {K : Frag} {h : Heap} {mg : Str → Option Value} (c : SaysX bx fn er "/claim/cut.py" K) (X : K.In h) (G : h.Ns mainGlobals mg) : Tx K mg where
  any := eqO_ok (fact c 1)
  m_super := free_ok X G (x := "super") (fact c 0)
  m_len := free_ok X G (x := "len") (fact c 2)
  m_enumerate := free_ok X G (x := "enumerate") (fact c 3)
  m_tuple := free_ok X G (x := "tuple") (fact c 4)
  m_sum := free_ok X G (x := "sum") (fact c 5)
  m_abs := free_ok X G (x := "abs") (fact c 6)
  m_int := free_ok X G (x := "int") (fact c 7)
  m_range := free_ok X G (x := "range") (fact c 8)
  m_isinstance := free_ok X G (x := "isinstance") (fact c 9)
  m_bool := free_ok X G (x := "bool") (fact c 10)
  m_str := free_ok X G (x := "str") (fact c 11)
  m_list := free_ok X G (x := "list") (fact c 12)
  m_max := free_ok X G (x := "max") (fact c 13)
  m_min := free_ok X G (x := "min") (fact c 14)
  m_zip := free_ok X G (x := "zip") (fact c 15)
  m_iter := free_ok X G (x := "iter") (fact c 16)
  m_ValueError := free_ok X G (x := "ValueError") (fact c 17)
  m_any := free_ok X G (x := "any") (fact c 18)
  g_wall := glo_ok X G (x := "_wall") (fact c 19)
  g_check_count := glo_ok X G (x := "check_count") (fact c 20)
  g_check_number := glo_ok X G (x := "check_number") (fact c 21)
  g_check_numbers := glo_ok X G (x := "check_numbers") (fact c 22)
  g_check_not_negative := glo_ok X G (x := "check_not_negative") (fact c 23)
  g_check_rest := glo_ok X G (x := "check_rest") (fact c 24)
  g_check_night := glo_ok X G (x := "check_night") (fact c 25)
  g_check_person := glo_ok X G (x := "check_person") (fact c 26)
  g_most_stretches := glo_ok X G (x := "most_stretches") (fact c 27)
  g_cover_fault := glo_ok X G (x := "cover_fault") (fact c 28)
  g_check_cover := glo_ok X G (x := "check_cover") (fact c 29)
  g_outside_nights := glo_ok X G (x := "outside_nights") (fact c 30)
  g_stretches_of := glo_ok X G (x := "stretches_of") (fact c 31)
  g_ends_from := glo_ok X G (x := "ends_from") (fact c 32)
  g_law_pool := glo_ok X G (x := "_law_pool") (fact c 33)
  g_law_draw := glo_ok X G (x := "_law_draw") (fact c 34)
  g_law_comings := glo_ok X G (x := "_law_comings") (fact c 35)
  g_law_wants := glo_ok X G (x := "_law_wants") (fact c 36)
  g_law_size := glo_ok X G (x := "_law_size") (fact c 37)
  g_law_int := glo_ok X G (x := "_law_int") (fact c 38)
  g_law_same := glo_ok X G (x := "_law_same") (fact c 39)
  g_law_inside := glo_ok X G (x := "_law_inside") (fact c 40)
  g_law_ends := glo_ok X G (x := "_law_ends") (fact c 41)
  g_law_house := glo_ok X G (x := "_law_house") (fact c 42)
  g_law_odd_end := glo_ok X G (x := "_law_odd_end") (fact c 43)
  g_law_drawn_ends := glo_ok X G (x := "_law_drawn_ends") (fact c 44)
  g_law_fault := glo_ok X G (x := "_law_fault") (fact c 45)
  g_law_try := glo_ok X G (x := "_law_try") (fact c 46)
  g_law_due := glo_ok X G (x := "_law_due") (fact c 47)
  g_law_asked := glo_ok X G (x := "_law_asked") (fact c 48)
  g_law_reads := glo_ok X G (x := "_law_reads") (fact c 49)
  g_law := glo_ok X G (x := "law") (fact c 50)
  f_wall := c.def_ 0
  f_check_count := c.def_ 1
  f_check_number := c.def_ 2
  f_check_numbers := c.def_ 3
  f_check_not_negative := c.def_ 4
  f_check_rest := c.def_ 5
  f_check_night := c.def_ 6
  f_check_person := c.def_ 7
  f_Cover_init := c.def_ 8
  f_Cover_len := c.def_ 9
  f_Cover_iter := c.def_ 10
  f_Cover_contains := c.def_ 11
  f_most_stretches := c.def_ 12
  f_cover_fault := c.def_ 13
  f_check_cover := c.def_ 14
  f_outside_nights := c.def_ 15
  f_stretches_of := c.def_ 16
  f_ends_from := c.def_ 17
  f_House_init := c.def_ 18
  f_House_all_there := c.def_ 19
  f_House_nights := c.def_ 20
  f_House_people := c.def_ 21
  f_House_whole := c.def_ 22
  f_House_changed := c.def_ 23
  f_House_here := c.def_ 24
  f_House_stretch := c.def_ 25
  f_Wants_init := c.def_ 26
  f_Wants_of := c.def_ 27
  f_Wants_len := c.def_ 28
  f_Wants_iter := c.def_ 29
  f_Wants_getitem := c.def_ 30
  f_Wants_add := c.def_ 31
  f_Wants_mul := c.def_ 32
  f_Wants_rmul := c.def_ 33
  f_Wants_lshift := c.def_ 34
  f_Wants_rshift := c.def_ 35
  f_Wants_neg := c.def_ 36
  f_Wants_abs := c.def_ 37
  f_law_pool := c.def_ 38
  f_law_draw := c.def_ 39
  f_law_comings := c.def_ 40
  f_law_wants := c.def_ 41
  f_law_size := c.def_ 42
  f_law_int := c.def_ 43
  f_law_same := c.def_ 44
  f_law_inside := c.def_ 45
  f_law_ends := c.def_ 46
  f_law_house := c.def_ 47
  f_law_odd_end := c.def_ 48
  f_law_drawn_ends := c.def_ 49
  f_law_fault := c.def_ 50
  f_law_try := c.def_ 51
  f_law_due := c.def_ 52
  f_law_asked := c.def_ 53
  f_law_reads := c.def_ 54
  f_law := c.def_ 55
  e_NoNight := errD_ok (d := ⟨"NoNight", e_NoNight, "NoNight.__init__", ["night"]⟩) X G tx_NoNight rfl (free_ok X G (x := "super") (fact c 0)) (eqO_ok (fact c 1)) (c.err_ (d := ⟨"NoNight", e_NoNight, "NoNight.__init__", ["night"]⟩) 0).1 (c.err_ (d := ⟨"NoNight", e_NoNight, "NoNight.__init__", ["night"]⟩) 0).2
  e_NoPerson := errD_ok (d := ⟨"NoPerson", e_NoPerson, "NoPerson.__init__", ["person"]⟩) X G tx_NoPerson rfl (free_ok X G (x := "super") (fact c 0)) (eqO_ok (fact c 1)) (c.err_ (d := ⟨"NoPerson", e_NoPerson, "NoPerson.__init__", ["person"]⟩) 1).1 (c.err_ (d := ⟨"NoPerson", e_NoPerson, "NoPerson.__init__", ["person"]⟩) 1).2
  e_BadNumber := errD_ok (d := ⟨"BadNumber", e_BadNumber, "BadNumber.__init__", ["place", "number"]⟩) X G tx_BadNumber rfl (free_ok X G (x := "super") (fact c 0)) (eqO_ok (fact c 1)) (c.err_ (d := ⟨"BadNumber", e_BadNumber, "BadNumber.__init__", ["place", "number"]⟩) 2).1 (c.err_ (d := ⟨"BadNumber", e_BadNumber, "BadNumber.__init__", ["place", "number"]⟩) 2).2
  e_TooLong := errD_ok (d := ⟨"TooLong", e_TooLong, "TooLong.__init__", ["count"]⟩) X G tx_TooLong rfl (free_ok X G (x := "super") (fact c 0)) (eqO_ok (fact c 1)) (c.err_ (d := ⟨"TooLong", e_TooLong, "TooLong.__init__", ["count"]⟩) 3).1 (c.err_ (d := ⟨"TooLong", e_TooLong, "TooLong.__init__", ["count"]⟩) 3).2
  e_BadRest := errD_ok (d := ⟨"BadRest", e_BadRest, "BadRest.__init__", ["rest"]⟩) X G tx_BadRest rfl (free_ok X G (x := "super") (fact c 0)) (eqO_ok (fact c 1)) (c.err_ (d := ⟨"BadRest", e_BadRest, "BadRest.__init__", ["rest"]⟩) 4).1 (c.err_ (d := ⟨"BadRest", e_BadRest, "BadRest.__init__", ["rest"]⟩) 4).2
  e_BadComing := errD_ok (d := ⟨"BadComing", e_BadComing, "BadComing.__init__", ["person", "coming"]⟩) X G tx_BadComing rfl (free_ok X G (x := "super") (fact c 0)) (eqO_ok (fact c 1)) (c.err_ (d := ⟨"BadComing", e_BadComing, "BadComing.__init__", ["person", "coming"]⟩) 5).1 (c.err_ (d := ⟨"BadComing", e_BadComing, "BadComing.__init__", ["person", "coming"]⟩) 5).2
  e_BadCover := errD_ok (d := ⟨"BadCover", e_BadCover, "BadCover.__init__", ["fault"]⟩) X G tx_BadCover rfl (free_ok X G (x := "super") (fact c 0)) (eqO_ok (fact c 1)) (c.err_ (d := ⟨"BadCover", e_BadCover, "BadCover.__init__", ["fault"]⟩) 6).1 (c.err_ (d := ⟨"BadCover", e_BadCover, "BadCover.__init__", ["fault"]⟩) 6).2
  cHouse := cls_ok (fact c 51)
  gHouse := glo_ok X G (x := "House") (fact c 52)
  tHouse := EF.cls_ok (fact c 53)
  kHouse := mkr_ok (fact c 54)
  nHouse_wants := noat_ok (x := "House") (f := "wants") (fact c 55)
  nHouse_comings := noat_ok (x := "House") (f := "comings") (fact c 56)
  nHouse_rest := noat_ok (x := "House") (f := "rest") (fact c 57)
  cWants := cls_ok (fact c 58)
  gWants := glo_ok X G (x := "Wants") (fact c 59)
  tWants := EF.cls_ok (fact c 60)
  kWants := mkr_ok (fact c 61)
  nWants_numbers := noat_ok (x := "Wants") (f := "numbers") (fact c 62)
  cCover := cls_ok (fact c 63)
  gCover := glo_ok X G (x := "Cover") (fact c 64)
  tCover := EF.cls_ok (fact c 65)
  kCover := mkr_ok (fact c 66)
  nCover_ends := noat_ok (x := "Cover") (f := "ends") (fact c 67)
  rHouse := FB.cread_ok (fact c 68)
  rWants := FB.cread_ok (fact c 69)
  vWants_MOST := FB.cint_ok (fact c 70)
  vWants_GREATEST := FB.cint_ok (fact c 71)
  v_MOST_PEOPLE := int_ok X G (x := "MOST_PEOPLE") (i := 30) (fact c 72)
  v_GREATEST_REST := int_ok X G (x := "GREATEST_REST") (i := 60) (fact c 73)
  wWants_len := FB.sp_ok (fact c 74)
  wWants_abs := FB.sp_ok (fact c 75)
  wWants_iter := FB.sp_ok (fact c 76)
  wWants_getitem := FB.sp_ok (fact c 77)
  wCover_len := FB.sp_ok (fact c 78)
  wCover_iter := FB.sp_ok (fact c 79)
  wCover_contains := FB.sp_ok (fact c 80)
  iWants_getitem := FC.ix_ok (fact c 81)
  wHouse_nights := prop_ok (fact c 82)
  wHouse_people := prop_ok (fact c 83)
  wHouse_stretch := meth_ok (x := "House") (m := "stretch") (fact c 84)
  gNightsError := glo_ok X G (x := "NightsError") (fact c 85)
  xNoNight := EF.exc_ok (fact c 86)
  nNoNight_night := noat_ok (x := "NoNight") (f := "night") (fact c 87)
  xBadNumber := EF.exc_ok (fact c 88)
  nBadNumber_place := noat_ok (x := "BadNumber") (f := "place") (fact c 89)
  nBadNumber_number := noat_ok (x := "BadNumber") (f := "number") (fact c 90)
  xTooLong := EF.exc_ok (fact c 91)
  nTooLong_count := noat_ok (x := "TooLong") (f := "count") (fact c 92)
  xBadRest := EF.exc_ok (fact c 93)
  nBadRest_rest := noat_ok (x := "BadRest") (f := "rest") (fact c 94)
  xBadComing := EF.exc_ok (fact c 95)
  nBadComing_person := noat_ok (x := "BadComing") (f := "person") (fact c 96)
  nBadComing_coming := noat_ok (x := "BadComing") (f := "coming") (fact c 97)
  xNoPerson := EF.exc_ok (fact c 98)
  nNoPerson_person := noat_ok (x := "NoPerson") (f := "person") (fact c 99)
  xBadCover := EF.exc_ok (fact c 100)
  nBadCover_fault := noat_ok (x := "BadCover") (f := "fault") (fact c 101)
  mNoPerson_NoPerson := of_decide_eq_true (fact c 102)
  mNoPerson_BadCover := of_decide_eq_true (fact c 103)
  kNoPerson_NightsError := of_decide_eq_true (fact c 104)
  kNoPerson_ValueError := of_decide_eq_true (fact c 105)
  mBadCover_NoPerson := of_decide_eq_true (fact c 106)
  mBadCover_BadCover := of_decide_eq_true (fact c 107)
  kBadCover_NightsError := of_decide_eq_true (fact c 108)
  kBadCover_ValueError := of_decide_eq_true (fact c 109)
  kBadCover_NoPerson := of_decide_eq_true (fact c 110)
end K10

set_option maxRecDepth 100000
set_option maxHeartbeats 4000000
namespace K10
open PySem PySem.Spec PyProof.Rows L2
section
variable {w : World} {K : PySem.W.Frag} {mg : Str → Option Value} {base : Heap}
/-! ### the law's draws -/
def spPool (K : PySem.W.Frag) : Sp := fun vs H Q _ => ∃ (a : Addr) (ns : List Int) (i : Nat), vs = [.ref a, .int (i : Nat)] ∧ SqL K H a (ns.map V.int) ∧ ∀ l st, H l = none → PoolOk st → Q (.ref l) (upd H l (.lst st))
theorem ok_law_pool (T : Tx K mg) : Ok PG w K mg base CX0 2 (a_law_pool K) p_law_pool (spPool K) := by
  refine Ok.of 1 T.f_law_pool sc_law_pool bi_law_pool (by decide) (fun vs H Q E h => ?_) (fun cdv A outer s H vs Q E hr h => ?_)
  · obtain ⟨_, _, _, rfl, _⟩ := h
    rfl
  · obtain ⟨a, ns, i, rfl, hs, q⟩ := h
    have nd := sc_law_pool.nd
    refine ⟨_, pss_cons (ps_set (i := 2) nd rfl (.inl rfl) pe_int)
      (pss_cons (ps_if (pt_cmpR op_lt (pv 1) (pe_callB call_len_seq (by rfl) T.m_len PySem.boot_len (pa_cons (pv 0) pa_nil)) (nomark _)) (pss_one (ps_set (i := 2) nd rfl (.inl rfl) (pe_callB call_abs (by rfl) T.m_abs (by decide +kernel) (pa_cons (pe_ix ix_list (pv 0) (pv 1) (fun _ _ => rfl)) pa_nil)))) pss_nil)
      (pss_cons (ps_if (pt_cmpR op_ge (pv 2) (pe_op op_pow pe_int pe_int) (nomark _)) (pss_one (ps_ret (pe_lst (pa_cons (pe_op op_sub (pv 2) (pe_op op_pow pe_int pe_int)) (pa_cons pe_int (pa_cons pe_int pa_nil)))))) pss_nil)
      (pss_one (ps_ret (pe_lst (pa_cons (pe_un un_neg pe_int) (pa_cons (pe_op op_modN (pe_callTy call_int1 (by rfl) T.m_int (by decide +kernel) (pa_cons (pv 2) pa_nil)) pe_int) (pa_cons (pe_op op_add (pv 1) pe_int) pa_nil)))))))), ?_⟩
    refine ⟨_, rfl, _, rfl, a, _, rfl, .inl hs, _, _, rfl, rfl, _, rfl, ?_⟩
    refine ite2 (fun c => ?_) (fun c => ?_)
    · have hi : i < ns.length := by
        have := of_decide_eq_true c
        rw [List.length_map] at this
        omega
      refine ⟨_, rfl, _, rfl, a, _, _, .int ns[i], rfl, rfl, hs, atI_nat (by rw [List.getElem?_map, List.getElem?_eq_getElem hi]; rfl), _, rfl, ?_⟩
      generalize (if ns[i] < 0 then -ns[i] else ns[i]) = z
      refine ⟨_, rfl, _, _, rfl, rfl, ⟨by decide, by decide, by decide⟩, _, _, rfl, rfl, _, rfl, ?_⟩
      refine ite2 (fun c => ?_) (fun c => ?_)
      · exact ⟨_, rfl, _, _, rfl, rfl, ⟨by decide, by decide, by decide⟩, _, _, rfl, rfl, by show 3 ≤ sizeLine; decide, fun l hl => q l _ hl ⟨_, _, _, rfl, by decide, by decide⟩⟩
      · exact ⟨_, rfl, _, rfl, .inl ⟨_, rfl, _, _, rfl, rfl, (by show (2147483399 : Int) ≠ 0; decide), _, rfl, _, _, rfl, rfl, by show 3 ≤ sizeLine; decide, fun l hl => q l _ hl ⟨_, _, _, rfl, (mod_lt (by decide)).1, Int.lt_trans (mod_lt (by decide)).2 (by decide)⟩⟩⟩
    · refine ⟨_, rfl, _, _, rfl, rfl, ⟨by decide, by decide, by decide⟩, _, _, rfl, rfl, _, rfl, ?_⟩
      refine ite2 (fun c => ?_) (fun c => ?_)
      · exact ⟨_, rfl, _, _, rfl, rfl, ⟨by decide, by decide, by decide⟩, _, _, rfl, rfl, by show 3 ≤ sizeLine; decide, fun l hl => q l _ hl ⟨_, _, _, rfl, by decide, by decide⟩⟩
      · exact ⟨_, rfl, _, rfl, .inl ⟨_, rfl, _, _, rfl, rfl, (by show (2147483399 : Int) ≠ 0; decide), _, rfl, _, _, rfl, rfl, by show 3 ≤ sizeLine; decide, fun l hl => q l _ hl ⟨_, _, _, rfl, (mod_lt (by decide)).1, Int.lt_trans (mod_lt (by decide)).2 (by decide)⟩⟩⟩
def spDraw (_K : PySem.W.Frag) : Sp := fun vs H Q _ => ∃ (p : Addr) (st : List V) (m : Int), vs = [.ref p, .int m] ∧ 0 < m ∧ m.natAbs < 2 ^ 200 ∧ H p = some (.lst st) ∧ PoolOk st ∧ ∀ v st', 0 ≤ v → v < m → PoolOk st' → Q (.int v) (upd H p (.lst st'))
theorem ok_law_draw (T : Tx K mg) : Ok PG w K mg base CX0 2 (a_law_draw K) p_law_draw (spDraw K) := by
  refine Ok.of 1 T.f_law_draw sc_law_draw bi_law_draw (by decide) (fun vs H Q E h => ?_) (fun cdv A outer s H vs Q E hr h => ?_)
  · obtain ⟨_, _, _, rfl, _⟩ := h
    rfl
  · obtain ⟨p, st, m, rfl, m0, mw, hp, ⟨a, b, c, rfl, b0, b1⟩, q⟩ := h
    have nd := sc_law_draw.nd
    refine ⟨_, pss_cons (ps_if (pt_cmpR op_ge (pe_ix ix_list (pv 0) pe_int (fun _ _ => rfl)) pe_int (nomark _)) (pss_cons (ps_set (i := 2) nd rfl (.inl rfl) (pe_op op_modN (pe_callTy call_int1 (by rfl) T.m_int (by decide +kernel) (pa_cons (pe_ix ix_list (pv 0) pe_int (fun _ _ => rfl)) pa_nil)) (pv 1)))
        (pss_cons (ps_asg (pe_op op_fdivW (pe_ix ix_list (pv 0) pe_int (fun _ _ => rfl)) (pv 1)) (pg_sub (pv 0) pe_int set_list)) (pss_one (ps_ret (pv 2))))) pss_nil)
      (pss_cons (ps_asg (pe_op op_add (pe_ix ix_list (pv 0) pe_int (fun _ _ => rfl)) pe_int) (pg_sub (pv 0) pe_int set_list))
      (pss_cons (ps_set (i := 3) nd rfl (.inl rfl) (pe_ix ix_list (pv 0) pe_int (fun _ _ => rfl)))
      (pss_cons (ps_set (i := 3) nd rfl (.inl rfl) (pe_op op_modN (pe_callTy call_int1 (by rfl) T.m_int (by decide +kernel) (pa_cons (pe_op op_add (pe_op op_add (pe_op op_mul (pv 3) (pv 3)) (pe_op op_mul (pe_ix ix_list (pv 0) pe_int (fun _ _ => rfl)) pe_int)) pe_int) pa_nil)) pe_int))
      (pss_cons (ps_set (i := 3) nd rfl (.inl rfl) (pe_op op_modN (pe_callTy call_int1 (by rfl) T.m_int (by decide +kernel) (pa_cons (pe_op op_add (pe_op op_mul (pv 3) (pv 3)) (pe_op op_fdiv (pv 3) pe_int)) pa_nil)) pe_int))
      (pss_cons (ps_asg (pv 3) (pg_sub (pv 0) pe_int set_list))
      (pss_one (ps_ret (pe_op op_modN (pe_callTy call_int1 (by rfl) T.m_int (by decide +kernel) (pa_cons (pe_op op_fdiv (pv 3) pe_int) pa_nil)) (pv 1))))))))), ?_⟩
    have at0 : ∀ x y z : V, atI [x, y, z] (0 : Int) = some x := fun _ _ _ => rfl
    have at1 : ∀ x y z : V, atI [x, y, z] (1 : Int) = some y := fun _ _ _ => rfl
    have at2 : ∀ x y z : V, atI [x, y, z] (2 : Int) = some z := fun _ _ _ => rfl
    refine ⟨_, rfl, p, _, _, _, rfl, rfl, SqL.of hp, at0 _ _ _, _, _, rfl, rfl, _, rfl, ?_⟩
    refine ite2 (fun ca => ?_) (fun ca => ?_)
    · refine ⟨_, rfl, p, _, _, _, rfl, rfl, SqL.of hp, at0 _ _ _, .inl ⟨_, rfl, _, rfl, _, _, rfl, rfl, by omega, ?_⟩⟩
      refine ⟨_, rfl, p, _, _, _, rfl, rfl, SqL.of hp, at0 _ _ _, _, rfl, _, _, rfl, rfl, wide_div m0 mw (by decide) (by decide), ?_⟩
      refine ⟨_, rfl, p, _, _, 0, rfl, rfl, hp, rfl, _, rfl, ?_⟩
      exact q _ _ (mod_lt m0).1 (mod_lt m0).2 ⟨_, _, _, rfl, b0, b1⟩
    · refine ⟨_, rfl, p, _, _, _, rfl, rfl, SqL.of hp, at2 _ _ _, _, _, rfl, rfl, ?_⟩
      refine ⟨_, rfl, p, _, _, 2, rfl, rfl, hp, rfl, ?_⟩
      refine ⟨_, rfl, p, _, _, _, rfl, rfl, SqL.of upd_same, at1 _ _ _, ?_⟩
      refine ⟨_, rfl, _, rfl, _, _, rfl, rfl, .inl ⟨by omega, by omega⟩, ?_⟩
      refine ⟨_, rfl, p, _, _, _, rfl, rfl, SqL.of upd_same, at2 _ _ _, _, _, rfl, rfl, .inr ⟨by decide, by decide⟩, ?_⟩
      refine ⟨_, _, rfl, rfl, _, _, rfl, rfl, .inl ⟨_, rfl, _, _, rfl, rfl, (by show (2147483399 : Int) ≠ 0; decide), ?_⟩⟩
      have x1 := mod_lt (a := (b * b + (c + 1) * 3571 + 40692 : Int)) (m := 2147483399) (by decide)
      refine ⟨_, rfl, _, rfl, _, _, rfl, rfl, .inl ⟨Int.lt_of_lt_of_le (by decide : -(2 ^ 64 : Int) < 0) x1.1, Int.lt_trans x1.2 (by decide)⟩, _, rfl, _, _, rfl, rfl, ⟨by decide, by decide⟩, _, _, rfl, rfl, .inl ⟨_, rfl, _, _, rfl, rfl, (by show (2147483629 : Int) ≠ 0; decide), ?_⟩⟩
      refine ⟨_, rfl, _, rfl, p, _, _, 1, rfl, rfl, upd_same, rfl, ?_⟩
      refine ⟨_, rfl, _, _, rfl, rfl, ⟨by decide, by decide⟩, .inl ⟨_, rfl, _, rfl, _, _, rfl, rfl, by omega, ?_⟩⟩
      rw [upd_upd]
      exact q _ _ (mod_lt m0).1 (mod_lt m0).2 ⟨_, _, _, rfl, (mod_lt (m := 2147483629) (by decide)).1, Int.lt_trans (mod_lt (m := 2147483629) (by decide)).2 (by decide)⟩
end
end K10
namespace K10
open PySem PySem.Spec PyProof.Rows L2
section
variable {w : World} {K : PySem.W.Frag} {mg : Str → Option Value} {base : Heap}
def spInt : Sp := fun vs H Q _ => ∃ (n : Int), vs = [.int n] ∧ Q (.bl true) H
theorem ok_law_int (T : Tx K mg) : Ok PG w K mg base CX0 2 (a_law_int K) p_law_int spInt := by
  refine Ok.of 1 T.f_law_int sc_law_int bi_law_int (by decide) (fun vs H Q E h => ?_) (fun cdv A outer s H vs Q E hr h => ?_)
  · obtain ⟨_, rfl, _⟩ := h
    rfl
  · obtain ⟨n, rfl, q⟩ := h
    refine ⟨_, pss_one (ps_ret (pe_and (pe_callB call_isi (by rfl) T.m_isinstance (by decide +kernel) (pa_cons (pv 0) (pa_cons (pe_bltn (v := .ty "int") (by rfl) T.m_int (by decide +kernel) rfl) pa_nil)))
      (pe_one (pe_not (pe_callB call_isi (by rfl) T.m_isinstance (by decide +kernel) (pa_cons (pv 0) (pa_cons (pe_bltn (v := .ty "bool") (by rfl) T.m_bool (by decide +kernel) rfl) pa_nil))))))), ?_⟩
    refine ⟨_, rfl, _, _, _, _, true, rfl, .ty _, .base (.int n), kit_ty (by decide +kernel), _, rfl, yep rfl ?_⟩
    exact ⟨_, rfl, _, _, _, _, false, rfl, .ty _, .base (.int n), kit_ty (by decide +kernel), _, rfl, q⟩
def spSame (K : PySem.W.Frag) (n : Nat) : Sp := fun vs H Q _ => ∃ (x y : V), vs = [x, y] ∧ Eqd K n H x y ∧ Q (.bl true) H
def spLow (K : PySem.W.Frag) : Nat → Sp
  | 0 => fun _ _ _ _ => False
  | n + 1 => spSame K n
theorem same_at (T : Tx K mg) (n k : Nat) (R0 : Ok PG w K mg base CX0 k (a_law_same K) p_law_same (spLow K n)) (hk : 2 ≤ k) : Ok PG w K mg base CX0 (k + 1) (a_law_same K) p_law_same (spSame K n) := by
  refine Ok.of k T.f_law_same sc_law_same bi_law_same (Nat.le_refl _) (fun vs H Q E h => ?_) (fun cdv A outer s H vs Q E hr h => ?_)
  · obtain ⟨_, _, rfl, _⟩ := h
    rfl
  · obtain ⟨x, y, rfl, hd, q⟩ := h
    have nd := sc_law_same.nd
    refine ⟨_, pss_cons (ps_if (pt_cmpR op_isN (pv 1) pe_non (nomark _)) (pss_one (ps_ret (pe_cmpR op_isN (pv 0) pe_non (nomark _)))) pss_nil)
      (pss_cons (ps_if (pt_cmpR op_isTF (pv 1) pe_bl (nomark _)) (pss_one (ps_ret (pe_cmpR op_isTF (pv 0) pe_bl (nomark _)))) pss_nil)
      (pss_cons (ps_if (pt_cmpR op_isTF (pv 1) pe_bl (nomark _)) (pss_one (ps_ret (pe_cmpR op_isTF (pv 0) pe_bl (nomark _)))) pss_nil)
      (pss_cons (ps_if (pt_val (pe_callB call_isi (by rfl) T.m_isinstance (by decide +kernel) (pa_cons (pv 1) (pa_cons (pe_bltn (v := .ty "int") (by rfl) T.m_int (by decide +kernel) rfl) pa_nil)))) (pss_one (ps_ret (pe_and (pc (ok_law_int T) (hr.mono hk) T.g_law_int pass0 (pa_cons (pv 0) pa_nil)) (pe_one (pe_cmpR op_eq (pv 0) (pv 1) (nomark _)))))) pss_nil)
      (pss_cons (ps_if (pt_val (pe_callB call_isi (by rfl) T.m_isinstance (by decide +kernel) (pa_cons (pv 1) (pa_cons (pe_bltn (v := .ty "str") (by rfl) T.m_str (by decide +kernel) rfl) pa_nil)))) (pss_one (ps_ret (pe_and (pe_callB call_isi (by rfl) T.m_isinstance (by decide +kernel) (pa_cons (pv 0) (pa_cons (pe_bltn (v := .ty "str") (by rfl) T.m_str (by decide +kernel) rfl) pa_nil))) (pe_one (pe_cmpR op_eq (pv 0) (pv 1) (nomark _)))))) pss_nil)
      (pss_cons (ps_if (pt_val (pe_callB call_isi (by rfl) T.m_isinstance (by decide +kernel) (pa_cons (pv 1) (pa_cons (pe_bltn (v := .ty "tuple") (by rfl) T.m_tuple (by decide +kernel) rfl) pa_nil))))
        (pss_one (ps_if (PW.pt (pw_or (pt_not (pt_val (pe_callB call_isi (by rfl) T.m_isinstance (by decide +kernel) (pa_cons (pv 0) (pa_cons (pe_bltn (v := .ty "tuple") (by rfl) T.m_tuple (by decide +kernel) rfl) pa_nil))))) (pw_or1 (pt_cmpR op_ne (pe_callB call_len_seq (by rfl) T.m_len PySem.boot_len (pa_cons (pv 0) pa_nil)) (pe_callB call_len_seq (by rfl) T.m_len PySem.boot_len (pa_cons (pv 1) pa_nil)) (nomark _))))) (pss_one (ps_ret pe_bl)) pss_nil))
        (pss_one (ps_if (PW.pt (pw_or (pt_not (pt_val (pe_callB call_isi (by rfl) T.m_isinstance (by decide +kernel) (pa_cons (pv 0) (pa_cons (pe_bltn (v := .ty "list") (by rfl) T.m_list (by decide +kernel) rfl) pa_nil))))) (pw_or1 (pt_cmpR op_ne (pe_callB call_len_seq (by rfl) T.m_len PySem.boot_len (pa_cons (pv 0) pa_nil)) (pe_callB call_len_seq (by rfl) T.m_len PySem.boot_len (pa_cons (pv 1) pa_nil)) (nomark _))))) (pss_one (ps_ret pe_bl)) pss_nil)))
      (pss_cons (ps_for (passX rfl) rfl (pi_range1 rfl T.m_range (pa_cons (pe_callB call_len_seq (by rfl) T.m_len PySem.boot_len (pa_cons (pv 1) pa_nil)) pa_nil)) (pg_name (i := 2) nd rfl (.inl rfl))
        (pss_one (ps_if (pt_not (pt_val (pc R0 hr T.g_law_same pass0 (pa_cons (pe_ix ix_seq (pv 0) (pv 2) (fun _ _ => rfl)) (pa_cons (pe_ix ix_seq (pv 1) (pv 2) (fun _ _ => rfl)) pa_nil))))) (pss_one (ps_ret pe_bl)) pss_nil)))
      (pss_one (ps_ret pe_bl)))))))), ?_⟩
    have hd2 : (x = y ∧ Atom x) ∨ ∃ m, n = m + 1 ∧ ∃ a b xs ys, x = .ref a ∧ y = .ref b ∧ ((SqT K H a xs ∧ SqT K H b ys) ∨ (SqL K H a xs ∧ SqL K H b ys)) ∧ xs.length = ys.length ∧ xs.length ≤ sizeLine ∧ ∀ (i : Nat) (u v : V), xs[i]? = some u → ys[i]? = some v → Eqd K m H u v := by
      cases n with
      | zero => exact .inl hd
      | succ m => exact hd.imp id fun z => ⟨m, rfl, z⟩
    rcases hd2 with ⟨rfl, ha⟩ | ⟨m, rfl, a, b, xs, ys, rfl, rfl, hs, hl, hz, hi⟩
    · cases ha with
      | non =>
        refine ⟨_, rfl, rfl, _, rfl, yep (by simp) ?_⟩
        exact ⟨_, rfl, rfl, by simpa using q⟩
      | bl b =>
        refine ⟨_, rfl, rfl, _, rfl, nope (by simp) ?_⟩
        cases b with
        | true =>
          refine ⟨_, rfl, _, rfl, _, rfl, yep (by simp) ?_⟩
          exact ⟨_, rfl, _, rfl, by simpa using q⟩
        | false =>
          refine ⟨_, rfl, _, rfl, _, rfl, nope (by simp) ?_⟩
          refine ⟨_, rfl, _, rfl, _, rfl, yep (by simp) ?_⟩
          exact ⟨_, rfl, _, rfl, by simpa using q⟩
      | int i =>
        refine ⟨_, rfl, rfl, _, rfl, nope (by simp) ?_⟩
        refine ⟨_, rfl, _, rfl, _, rfl, nope (by simp) ?_⟩
        refine ⟨_, rfl, _, rfl, _, rfl, nope (by simp) ?_⟩
        refine ⟨_, rfl, _, _, _, _, true, rfl, .ty _, .base (.int i), kit_ty (by decide +kernel), _, rfl, yep rfl ?_⟩
        refine ⟨_, rfl, i, rfl, _, rfl, yep rfl ?_⟩
        exact ⟨_, rfl, _, rfl, rfl, by simpa using q⟩
      | str z =>
        refine ⟨_, rfl, rfl, _, rfl, nope (by simp) ?_⟩
        refine ⟨_, rfl, _, rfl, _, rfl, nope (by simp) ?_⟩
        refine ⟨_, rfl, _, rfl, _, rfl, nope (by simp) ?_⟩
        refine ⟨_, rfl, _, _, _, _, false, rfl, .ty _, .base (.str z), kit_ty (by decide +kernel), _, rfl, nope rfl ?_⟩
        refine ⟨_, rfl, _, _, _, _, true, rfl, .ty _, .base (.str z), kit_ty (by decide +kernel), _, rfl, yep rfl ?_⟩
        refine ⟨_, rfl, _, _, _, _, true, rfl, .ty _, .base (.str z), kit_ty (by decide +kernel), _, rfl, yep rfl ?_⟩
        exact ⟨_, rfl, _, rfl, rfl, by simpa using q⟩
    · refine ⟨_, rfl, rfl, _, rfl, nope (by simp) ?_⟩
      refine ⟨_, rfl, _, rfl, _, rfl, nope (by simp) ?_⟩
      refine ⟨_, rfl, _, rfl, _, rfl, nope (by simp) ?_⟩
      have hsz : ys.length < 2 ^ 62 := by rw [← hl]; rw [sizeLine_eq] at hz; omega
      rcases hs with ⟨h1, h2⟩ | ⟨h1, h2⟩
      · refine ⟨_, rfl, _, _, _, _, false, rfl, .ty _, h2.ty, kit_ty (by decide +kernel), _, rfl, nope rfl ?_⟩
        refine ⟨_, rfl, _, _, _, _, false, rfl, .ty _, h2.ty, kit_ty (by decide +kernel), _, rfl, nope rfl ?_⟩
        refine ⟨_, rfl, _, _, _, _, true, rfl, .ty _, h2.ty, kit_ty (by decide +kernel), _, rfl, yep rfl ?_⟩
        refine ⟨_, rfl, _, _, _, _, true, rfl, .ty _, h1.ty, kit_ty (by decide +kernel), _, rfl, nope rfl ?_⟩
        refine ⟨_, rfl, a, xs, rfl, .inr h1, _, rfl, b, ys, rfl, .inr h2, rfl, _, rfl, nope (by simp [hl]) ?_⟩
        refine ⟨_, rfl, b, ys, rfl, .inr h2, _, rfl, by omega, by omega, ?_⟩
        refine for_range (lo := 0) (n := ys.length) (fun i σ H' => H' = H ∧ σ.length = 3 ∧ σ[0]? = some (some (.ref a)) ∧ σ[1]? = some (some (.ref b))) ⟨rfl, rfl, rfl, rfl⟩ ?_ ?_
        · rintro i σ H' hi' ⟨rfl, hl3, z0, z1⟩
          have hx : xs[i]? = some xs[i] := List.getElem?_eq_getElem (by omega)
          have hy : ys[i]? = some ys[i] := List.getElem?_eq_getElem hi'
          have w0 : (σ.set 2 (some (.int (0 + (i : Nat)))))[0]? = some (some (.ref a)) := by rw [List.getElem?_set_ne (by decide)]; exact z0
          have w1 : (σ.set 2 (some (.int (0 + (i : Nat)))))[1]? = some (some (.ref b)) := by rw [List.getElem?_set_ne (by decide)]; exact z1
          have w2 : (σ.set 2 (some (.int (0 + (i : Nat)))))[2]? = some (some (.int (i : Nat))) := by rw [List.getElem?_set_self (by omega), Int.zero_add]
          refine ⟨_, w0, _, w2, .inr (.inl ⟨a, xs, _, _, rfl, rfl, h1, atI_nat hx, _, w1, _, w2, .inr (.inl ⟨b, ys, _, _, rfl, rfl, h2, atI_nat hy, ?_⟩)⟩)⟩
          exact ⟨_, _, rfl, hi i _ _ hx hy, _, rfl, nope rfl ⟨rfl, by simp [hl3], w0, w1⟩⟩
        · rintro σ H' ⟨rfl, _⟩
          exact q
      · refine ⟨_, rfl, _, _, _, _, false, rfl, .ty _, h2.ty, kit_ty (by decide +kernel), _, rfl, nope rfl ?_⟩
        refine ⟨_, rfl, _, _, _, _, false, rfl, .ty _, h2.ty, kit_ty (by decide +kernel), _, rfl, nope rfl ?_⟩
        refine ⟨_, rfl, _, _, _, _, false, rfl, .ty _, h2.ty, kit_ty (by decide +kernel), _, rfl, nope rfl ?_⟩
        refine ⟨_, rfl, _, _, _, _, true, rfl, .ty _, h1.ty, kit_ty (by decide +kernel), _, rfl, nope rfl ?_⟩
        refine ⟨_, rfl, a, xs, rfl, .inl h1, _, rfl, b, ys, rfl, .inl h2, rfl, _, rfl, nope (by simp [hl]) ?_⟩
        refine ⟨_, rfl, b, ys, rfl, .inl h2, _, rfl, by omega, by omega, ?_⟩
        refine for_range (lo := 0) (n := ys.length) (fun i σ H' => H' = H ∧ σ.length = 3 ∧ σ[0]? = some (some (.ref a)) ∧ σ[1]? = some (some (.ref b))) ⟨rfl, rfl, rfl, rfl⟩ ?_ ?_
        · rintro i σ H' hi' ⟨rfl, hl3, z0, z1⟩
          have hx : xs[i]? = some xs[i] := List.getElem?_eq_getElem (by omega)
          have hy : ys[i]? = some ys[i] := List.getElem?_eq_getElem hi'
          have w0 : (σ.set 2 (some (.int (0 + (i : Nat)))))[0]? = some (some (.ref a)) := by rw [List.getElem?_set_ne (by decide)]; exact z0
          have w1 : (σ.set 2 (some (.int (0 + (i : Nat)))))[1]? = some (some (.ref b)) := by rw [List.getElem?_set_ne (by decide)]; exact z1
          have w2 : (σ.set 2 (some (.int (0 + (i : Nat)))))[2]? = some (some (.int (i : Nat))) := by rw [List.getElem?_set_self (by omega), Int.zero_add]
          refine ⟨_, w0, _, w2, .inl ⟨a, xs, _, _, rfl, rfl, h1, atI_nat hx, _, w1, _, w2, .inl ⟨b, ys, _, _, rfl, rfl, h2, atI_nat hy, ?_⟩⟩⟩
          exact ⟨_, _, rfl, hi i _ _ hx hy, _, rfl, nope rfl ⟨rfl, by simp [hl3], w0, w1⟩⟩
        · rintro σ H' ⟨rfl, _⟩
          exact q
theorem ok_law_same (T : Tx K mg) : ∀ n, Ok PG w K mg base CX0 (3 + n) (a_law_same K) p_law_same (spSame K n)
  | 0 => same_at T 0 2 (by
      obtain ⟨fd, F⟩ := T.f_law_same
      exact ⟨fd, ⟨fun _ _ _ _ h => h.elim, fun _ _ _ _ _ _ _ _ _ _ _ _ _ h => h.elim⟩, bi_law_same F, F.kp⟩) (Nat.le_refl _)
  | n + 1 => same_at T (n + 1) (3 + n) (ok_law_same T n) (by omega)
end
end K10
namespace K10
open PySem PySem.Spec PyProof.Rows L2
section
variable {w : World} {K : PySem.W.Frag} {mg : Str → Option Value} {base : Heap}
abbrev xT (n : Int) : HO := .xd [("count", .int n)]
abbrev xB (i n : Int) : HO := .xd [("number", .int n), ("place", .int i)]
def spCount (K : PySem.W.Frag) : Sp := fun vs H Q E => ∃ (n m : Int), vs = [.int n, .int m] ∧ (n > m → Rs (c_TooLong K) (xT n) H E) ∧ (¬ n > m → Q .non H)
theorem ok_check_count (T : Tx K mg) : Ok PG w K mg base (L2.CX PG w) 3 (a_check_count K) p_check_count (spCount K) := by
  refine Ok.of 2 T.f_check_count sc_check_count bi_check_count (by decide) (fun vs H Q E h => ?_) (fun cdv A outer s H vs Q E hr h => ?_)
  · obtain ⟨n, m, rfl, _⟩ := h
    rfl
  · obtain ⟨n, m, rfl, h1, h2⟩ := h
    refine ⟨_, pss_one (ps_if (pt_cmpR op_gt (pv 0) (pv 1) (nomark _)) (pss_one (ps_raiseX rfl T.e_TooLong (by decide) (by decide) hr (takes_of rfl rfl rfl rfl) rfl (pa_cons (pv 0) pa_nil))) pss_nil), ?_⟩
    refine ⟨_, rfl, _, rfl, _, _, rfl, rfl, _, rfl, ?_⟩
    refine ite2 (fun c => ?_) (fun c => ?_)
    · refine ⟨_, rfl, rfl, fun d hd => (h1 (of_decide_eq_true c)).now d hd⟩
    · exact h2 (of_decide_eq_false (by simpa using c))
def spNeg (K : PySem.W.Frag) : Sp := fun vs H Q E => ∃ (n : Int), vs = [.int n] ∧ (n < 0 → Rs (c_BadNumber K) (xB 0 n) H E) ∧ (¬ n < 0 → Q .non H)
theorem ok_check_not_negative (T : Tx K mg) : Ok PG w K mg base (L2.CX PG w) 3 (a_check_not_negative K) p_check_not_negative (spNeg K) := by
  refine Ok.of 2 T.f_check_not_negative sc_check_not_negative bi_check_not_negative (by decide) (fun vs H Q E h => ?_) (fun cdv A outer s H vs Q E hr h => ?_)
  · obtain ⟨n, rfl, _⟩ := h
    rfl
  · obtain ⟨n, rfl, h1, h2⟩ := h
    refine ⟨_, pss_one (ps_if (pt_cmpR op_lt (pv 0) pe_int (nomark _)) (pss_one (ps_raiseX rfl T.e_BadNumber (by decide) (by decide) hr (takes_of rfl rfl rfl rfl) rfl (pa_cons pe_int (pa_cons (pv 0) pa_nil)))) pss_nil), ?_⟩
    refine ⟨_, rfl, _, _, rfl, rfl, _, rfl, ?_⟩
    refine ite2 (fun c => ?_) (fun c => ?_)
    · refine ⟨_, rfl, rfl, fun d hd => (h1 (of_decide_eq_true c)).now d hd⟩
    · exact h2 (of_decide_eq_false (by simpa using c))
/-- the first of ns that is not from 0 to g -/
def bad (g : Int) : Nat → List Int → Option (Nat × Int)
  | _, [] => none
  | i, n :: ns => if 0 ≤ n ∧ n ≤ g then bad g (i + 1) ns else some (i, n)
theorem bad_step {g : Int} : ∀ {k : Nat} {ns : List Int} {i : Nat}, bad g (k + i) (ns.drop i) = bad g k ns → ∀ {n : Int}, ns[i]? = some n → (0 ≤ n ∧ n ≤ g → bad g (k + (i + 1)) (ns.drop (i + 1)) = bad g k ns) ∧ (¬ (0 ≤ n ∧ n ≤ g) → bad g k ns = some (k + i, n)) := by
  intro k ns i h n hn
  obtain ⟨hi, e⟩ := List.getElem?_eq_some_iff.mp hn
  rw [List.drop_eq_getElem_cons hi, e] at h
  constructor
  · intro c
    rw [← h, bad, if_pos c]
    rfl
  · intro c
    rw [← h, bad, if_neg c]
theorem bad_end {g : Int} {k : Nat} {ns : List Int} (h : bad g (k + ns.length) (ns.drop ns.length) = bad g k ns) : bad g k ns = none := by
  rw [← h, List.drop_length]
  rfl
theorem bad_none {g : Int} : ∀ {k : Nat} {ns : List Int}, bad g k ns = none ↔ ∀ n ∈ ns, 0 ≤ n ∧ n ≤ g
  | _, [] => by simp [bad]
  | k, n :: ns => by
    rw [bad]
    split
    · rename_i c
      rw [bad_none (ns := ns)]
      simp [c]
    · rename_i c
      simp [c]
def spOneNum (K : PySem.W.Frag) : Sp := fun vs H Q E => ∃ (i n g : Int), vs = [.int i, .int n, .int g] ∧ (¬ (0 ≤ n ∧ n ≤ g) → Rs (c_BadNumber K) (xB i n) H E) ∧ (0 ≤ n ∧ n ≤ g → Q .non H)
theorem ok_check_number (T : Tx K mg) : Ok PG w K mg base (L2.CX PG w) 2 (a_check_number K) p_check_number (spOneNum K) := by
  refine Ok.of 1 T.f_check_number sc_check_number bi_check_number (by decide) (fun vs H Q E h => ?_) (fun cdv A outer s H vs Q E hr h => ?_)
  · obtain ⟨_, _, _, rfl, _⟩ := h
    rfl
  · obtain ⟨i, n, g, rfl, h1, h2⟩ := h
    refine ⟨_, pss_one (ps_if (pt_not (pt_chain op_le op_le pe_int (pv 1) (pv 2))) (pss_one (ps_raiseX rfl T.e_BadNumber (by decide) (by decide) hr (takes_of rfl rfl rfl rfl) rfl (pa_cons (pv 0) (pa_cons (pv 1) pa_nil)))) pss_nil), ?_⟩
    refine ⟨_, rfl, _, _, rfl, rfl, _, rfl, ite2 (fun c => ?_) (fun c => ?_)⟩
    · refine ⟨_, rfl, _, _, rfl, rfl, _, rfl, ite2 (fun d => ?_) (fun d => ?_)⟩
      · exact ⟨_, rfl, _, rfl, rfl, fun z hz => (h1 (fun y => by simp [y.2] at d)).now z hz⟩
      · exact h2 ⟨of_decide_eq_true c, by simpa using d⟩
    · refine ⟨_, rfl, iteT ?_⟩
      exact ⟨_, rfl, _, rfl, rfl, fun z hz => (h1 (fun y => c (decide_eq_true y.1))).now z hz⟩
def spNums (K : PySem.W.Frag) : Sp := fun vs H Q E => ∃ (a : Addr) (ns : List Int) (g : Int), vs = [.ref a, .int g] ∧ SqA K H a (ns.map V.int) ∧
  (∀ i n, bad g 0 ns = some (i, n) → Rs (c_BadNumber K) (xB (i : Nat) n) H E) ∧ (bad g 0 ns = none → ∀ H', Same H H' → Q .non H')
theorem ok_check_numbers (T : Tx K mg) : Ok PG w K mg base (L2.CX PG w) 3 (a_check_numbers K) p_check_numbers (spNums K) := by
  refine Ok.of 2 T.f_check_numbers sc_check_numbers bi_check_numbers (by decide) (fun vs H Q E h => ?_) (fun cdv A outer s H vs Q E hr h => ?_)
  · obtain ⟨n, m, _, rfl, _⟩ := h
    rfl
  · obtain ⟨a, ns, g, rfl, hs, h1, h2⟩ := h
    have nd := sc_check_numbers.nd
    refine ⟨_, pss_one (ps_for (passX rfl) rfl (pi_enumW (by rfl) T.m_enumerate (pa_cons (pv 0) pa_nil)) (pg_tup rfl (pgs_cons (pg_name (i := 2) nd rfl (.inl rfl)) (pgs_cons (pg_name (i := 3) nd rfl (.inl rfl)) pgs_nil)))
      (pss_one (ps_expr (pc (ok_check_number T) hr T.g_check_number px (pa_cons (pv 2) (pa_cons (pv 3) (pa_cons (pv 1) pa_nil))))))), ?_⟩
    refine ⟨_, rfl, a, ns.map V.int, rfl, hs, fun J G hG wk => ?_⟩
    refine for_it wk (fun i σ H' => Same H H' ∧ bad g (0 + i) (ns.drop i) = bad g 0 ns ∧ σ.length = 4 ∧ σ[1]? = some (some (.int g))) ⟨.refl _, rfl, rfl, rfl⟩ (fun i σ H' _ p => hG H' p.1) (fun i x σ H0 H1 hi p y => ?_) (fun σ H' p => ?_)
    · obtain ⟨sm, hb, hl, hg⟩ := p
      obtain ⟨T', x', y', rfl, hT, rfl, e1, e2⟩ := y
      obtain ⟨n, hn, rfl⟩ := map_get e2
      cases e1
      have sm' : Same H (upd H0 T' (.tup [.int (i : Nat), .int n])) := sm.new' hT
      obtain ⟨b1, b2⟩ := bad_step hb hn
      have z2 : ((σ.set 2 (some (V.int (i : Nat)))).set 3 (some (V.int n)))[2]? = some (some (.int (i : Nat))) := by
        rw [List.getElem?_set_ne (by decide), List.getElem?_set_self (by omega)]
      have z3 : ((σ.set 2 (some (V.int (i : Nat)))).set 3 (some (V.int n)))[3]? = some (some (.int n)) := by
        rw [List.getElem?_set_self (by rw [List.length_set]; omega)]
      have z1 : ((σ.set 2 (some (V.int (i : Nat)))).set 3 (some (V.int n)))[1]? = some (some (.int g)) := by
        rw [List.getElem?_set_ne (by decide), List.getElem?_set_ne (by decide)]; exact hg
      refine ⟨T', _, rfl, SqT.of upd_same, rfl, _, _, rfl, _, _, rfl, rfl, ?_⟩
      exact ⟨_, z2, _, z3, _, z1, (i : Nat), n, g, rfl, fun c d H2 s2 hd => h1 i n (by have := b2 c; rwa [Nat.zero_add] at this) _ _ (sm'.trans s2) hd, fun c => ⟨sm', b1 c, by simp [hl], z1⟩⟩
    · refine h2 (bad_end (k := 0) ?_) H' p.1
      have := p.2.1
      rwa [List.length_map] at this
end
end K10
namespace K10
open PySem PySem.Spec PyProof.Rows L2
section
variable {w : World} {K : PySem.W.Frag} {mg : Str → Option Value} {base : Heap}
def spWants (_K : PySem.W.Frag) : Sp := fun vs H Q _ => ∃ (p : Addr) (st : List V) (n m : Int), vs = [.ref p, .int n, .int m] ∧ 0 ≤ n ∧ n ≤ 100 ∧ 0 ≤ m ∧ m < 2 ^ 190 ∧ H p = some (.lst st) ∧ PoolOk st ∧
  ∀ (H' : Hp) (l : Addr) (ns : List Int) (st' : List V), But p H H' → H' p = some (.lst st') → PoolOk st' → H l = none → H' l = some (.lst (ns.map V.int)) → ns.length = n.toNat → (∀ x ∈ ns, 0 ≤ x ∧ x ≤ m) → Q (.ref l) H'
theorem ok_law_wants (T : Tx K mg) : Ok PG w K mg base CX0 4 (a_law_wants K) p_law_wants (spWants K) := by
  refine Ok.of 3 T.f_law_wants sc_law_wants bi_law_wants (by decide) (fun vs H Q E h => ?_) (fun cdv A outer s H vs Q E hr h => ?_)
  · obtain ⟨_, _, _, _, rfl, _⟩ := h
    rfl
  · obtain ⟨p, st, n, m, rfl, n0, n1, m0, m1, hp, ok, q⟩ := h
    have nd := sc_law_wants.nd
    refine ⟨_, pss_one (ps_ret (pe_lc (own := [("night", 3)]) (g := gName 3) (tt := tYes) rfl nd (pi_range1 rfl T.m_range (pa_cons (pv 1) pa_nil)) (blkOk_by (N := n_law_wants) (sc := defScope s_law_wants) (by decide +kernel)) (fun _ _ _ _ _ => pg_name (i := 3) nd rfl (Or.inl rfl)) (fun _ _ _ _ _ => pts_nil)
      (fun _ _ _ _ _ => pc (ok_law_draw T) (hr.mono (by decide)) T.g_law_draw pass0 (pa_cons (pv 0) (pa_cons (pe_op op_add (pv 2) pe_int) pa_nil))))), ?_⟩
    refine ⟨_, rfl, n, rfl, by omega, by omega, fun D hD => ?_⟩
    have hDp : D ≠ p := fun z => by rw [z, hp] at hD; cases hD
    refine lc_range (lo := 0) (n := n.toNat) (fun i H' => ∃ (ns : List Int) (st' : List V), But p H H' ∧ H' p = some (.lst st') ∧ PoolOk st' ∧ H' D = some (.lst (ns.map V.int)) ∧ ns.length = i ∧ ∀ x ∈ ns, 0 ≤ x ∧ x ≤ m) ⟨[], st, .of (.new hD), by rw [upd_ne (Ne.symm hDp)]; exact hp, ok, upd_same, rfl, fun x hx => by cases hx⟩ ?_ ?_
    · rintro i H' hi ⟨ns, st', bt, hp', ok', hl, hn, hb⟩
      refine ⟨rfl, ?_⟩
      refine yesT ?_
      refine ⟨_, rfl, _, rfl, _, _, rfl, rfl, p, st', m + 1, rfl, by omega, ?_, hp', ok', fun v st2 v0 v1 ok2 => ?_⟩
      · have : (m + 1).natAbs < 2 ^ 191 := by omega
        exact Nat.lt_trans this (by decide)
      · refine ⟨ns.map V.int, by rw [upd_ne hDp]; exact hl, by rw [List.length_map, hn, sizeLine_eq]; omega, ns ++ [v], st2, ?_, ?_, ok2, ?_, ?_, ?_⟩
        · intro b o nb hb'
          have nbD : b ≠ D := fun z => by rw [z, hD] at hb'; cases hb'
          rw [upd_ne nbD, upd_ne nb]
          exact bt b o nb hb'
        · rw [upd_ne (Ne.symm hDp), upd_same]
        · rw [upd_same, List.map_append]; rfl
        · rw [List.length_append, hn]; rfl
        · intro x hx
          rcases List.mem_append.mp hx with hx | hx
          · exact hb x hx
          · rw [List.mem_singleton.mp hx]
            exact ⟨v0, by omega⟩
    · rintro H' ⟨ns, st', bt, hp', ok', hl, hn, hb⟩
      exact q H' D ns st' bt hp' ok' hD hl hn hb
end
end K10

set_option maxRecDepth 100000
set_option maxHeartbeats 4000000
namespace K10
open PySem PySem.Spec PyProof.Rows L2
section
variable {w : World} {K : PySem.W.Frag} {mg : Str → Option Value} {base : Heap}
/-- at p a Wants of ns -/
def IsW (K : PySem.W.Frag) (H : Hp) (p : Addr) (ns : List Int) : Prop := ∃ dx t, H p = some (.ins (c_Wants K) dx [("numbers", .ref t)]) ∧ SqT K H t (ns.map V.int)
theorem IsW.same {H H' : Hp} {p : Addr} {ns : List Int} (h : IsW K H p ns) (s : Same H H') : IsW K H' p ns := let ⟨dx, t, a, b⟩ := h; ⟨dx, t, s _ _ a, s.seqT b⟩
/-- a run of ns is made, or the error that is due comes -/
structure Mkr (K : PySem.W.Frag) (ns : List Int) (H : Hp) (Q : VK) (E : XK) : Prop where
  long : 60 < ns.length → Rs (c_TooLong K) (xT ns.length) H E
  bad_ : ns.length ≤ 60 → ∀ i n, bad 30 0 ns = some (i, n) → Rs (c_BadNumber K) (xB (i : Nat) n) H E
  good : ns.length ≤ 60 → bad 30 0 ns = none → ∀ H' p, Same H H' → IsW K H' p ns → Q (.ref p) H'
theorem Mkr.same {ns : List Int} {H H' : Hp} {Q : VK} {E : XK} (h : Mkr K ns H Q E) (s : Same H H') : Mkr K ns H' Q E :=
  ⟨fun c => (h.long c).same s, fun c i n e => (h.bad_ c i n e).same s, fun c e H2 p s2 g => h.good c e H2 p (s.trans s2) g⟩
def spInit (K : PySem.W.Frag) : Sp := fun vs H Q E => ∃ (x a dx : Addr) (ns : List Int), vs = [.ref x, .ref a] ∧ H x = some (.ins (c_Wants K) dx []) ∧ SqA K H a (ns.map V.int) ∧
  (60 < ns.length → Rs (c_TooLong K) (xT ns.length) H E) ∧ (ns.length ≤ 60 → ∀ i n, bad 30 0 ns = some (i, n) → Rs (c_BadNumber K) (xB (i : Nat) n) H E) ∧
  (ns.length ≤ 60 → bad 30 0 ns = none → ∀ H' t, Same H H' → SqT K H' t (ns.map V.int) → Q .non (upd H' x (.ins (c_Wants K) dx [("numbers", .ref t)])))
theorem ok_Wants_init (T : Tx K mg) : Ok PG w K mg base (L2.CX PG w) 4 (a_Wants_init K) p_Wants_init (spInit K) := by
  refine Ok.of 3 T.f_Wants_init sc_Wants_init bi_Wants_init (by decide) (fun vs H Q E h => ?_) (fun cdv A outer s H vs Q E hr h => ?_)
  · obtain ⟨n, m, _, _, rfl, _⟩ := h
    rfl
  · obtain ⟨x, a, dx, ns, rfl, hx, ha, h1, h2, h3⟩ := h
    have nd := sc_Wants_init.nd
    obtain ⟨u1, cv1⟩ := T.vWants_MOST
    obtain ⟨u2, cv2⟩ := T.vWants_GREATEST
    refine ⟨_, pss_cons (ps_expr (pc (ok_check_count T) hr T.g_check_count px (pa_cons (pe_callB call_len_seq (by rfl) T.m_len PySem.boot_len (pa_cons (pv 1) pa_nil)) (pa_cons (ClX.pe_cval (pgC T.gWants)) pa_nil))))
      (pss_cons (ps_expr (pc (ok_check_numbers T) hr T.g_check_numbers px (pa_cons (pv 1) (pa_cons (ClX.pe_cval (pgC T.gWants)) pa_nil))))
      (pss_one (ps_fld (pv 0) (pe_callTy call_tuple_of (by rfl) T.m_tuple (by decide +kernel) (pa_cons (pv 1) pa_nil)) rfl))), ?_⟩
    refine ⟨_, rfl, a, _, rfl, ha, _, _, _, _, rfl, T.rWants, cv1, _, _, rfl, fun c => ?_, fun c => ?_⟩
    · have := h1 (by rw [List.length_map] at c; omega)
      rw [List.length_map]
      exact this
    · have hl : ns.length ≤ 60 := by rw [List.length_map] at c; omega
      refine ⟨_, rfl, _, _, _, _, rfl, T.rWants, cv2, a, ns, 30, rfl, ha, fun i n e => h2 hl i n e, fun e H' sm => ?_⟩
      have fin : ∀ t H2, Same H H2 → SqT K H2 t (ns.map V.int) → Q .non (upd H2 x (.ins (c_Wants K) dx [("numbers", .ref t)])) := fun t H2 s2 ht => h3 hl e H2 t s2 ht
      rcases sm.seqA ha with ha' | ha'
      · refine ⟨_, rfl, a, _, rfl, .inl ⟨ha', fun l hl' => ?_⟩⟩
        have hx' : upd H' l (.tup (ns.map V.int)) x = some (.ins (c_Wants K) dx []) := (Same.new hl') _ _ (sm _ _ hx)
        exact ⟨_, rfl, x, c_Wants K, dx, _, rfl, hx', T.cWants, T.nWants_numbers, by decide, fin l _ (sm.new' hl') (SqT.of upd_same)⟩
      · refine ⟨_, rfl, a, _, rfl, .inr ⟨ha', ?_⟩⟩
        exact ⟨_, rfl, x, c_Wants K, dx, _, rfl, sm _ _ hx, T.cWants, T.nWants_numbers, by decide, fin a _ sm ha'⟩
/-- Wants(e): from what is asked of the run to what is asked of __init__ -/
theorem mk_wants {H : Hp} {a : Addr} {ns : List Int} {Q : VK} {E : XK} (ha : SqA K H a (ns.map V.int)) (h : Mkr K ns H Q E) : ∀ x dx, H x = none → H dx = none → dx ≠ x →
    spInit K ([.ref x, .ref a]) (upd (upd H dx (.own x)) x (.ins (c_Wants K) dx [])) (fun v H2 => v = .non ∧ Q (.ref x) H2) E := by
  intro x dx hx hdx hne
  have s1 : Same H (upd (upd H dx (.own x)) x (.ins (c_Wants K) dx [])) := (Same.new hdx).new' (by rw [upd_ne (Ne.symm hne)]; exact hx)
  refine ⟨x, a, dx, ns, rfl, upd_same, s1.seqA ha, fun c => (h.long c).same s1, fun c i n e => (h.bad_ c i n e).same s1, fun c e H' t s2 ht => ⟨rfl, ?_⟩⟩
  have hx' : H' x = some (.ins (c_Wants K) dx []) := s2 _ _ upd_same
  have ms : Same H (upd H' x (.ins (c_Wants K) dx [("numbers", .ref t)])) := fun b o q => by
    have : b ≠ x := fun z => by rw [z, hx] at q; cases q
    rw [upd_ne this]
    exact s2 _ _ (s1 _ _ q)
  have ht' : SqT K (upd H' x (.ins (c_Wants K) dx [("numbers", .ref t)])) t (ns.map V.int) := by
    rcases ht with (ht | ⟨o, ht⟩) | ht
    · exact .inl (.inl (by rw [upd_ne (fun z => by rw [z, hx'] at ht; cases ht)]; exact ht))
    · exact .inl (.inr ⟨o, by rw [upd_ne (fun z => by rw [z, hx'] at ht; cases ht)]; exact ht⟩)
    · exact .inr ht
  exact h.good c e _ x ms ⟨dx, t, upd_same, ht'⟩
theorem inB_none {ns : List Int} (h : ∀ x ∈ ns, 0 ≤ x ∧ x ≤ 30) : bad 30 0 ns = none := bad_none.2 h
theorem mk_wok {H : Hp} {a : Addr} {ns : List Int} (ha : SqA K H a (ns.map V.int)) (l : ns.length ≤ 60) (b : ∀ x ∈ ns, 0 ≤ x ∧ x ≤ 30) (x dx : Addr) (hx : H x = none) (hdx : H dx = none) (hne : dx ≠ x) (Q : VK) (q : ∀ H', Same H H' → IsW K H' x ns → Q .non H') :
    spInit K ([.ref x, .ref a]) (upd (upd H dx (.own x)) x (.ins (c_Wants K) dx [])) Q (fun _ _ _ => False) := by
  obtain ⟨x', a', dx', ns', e, h1, h2, h3, h4, h5⟩ := mk_wants (Q := fun y H' => ∃ p, y = .ref p ∧ Same H H' ∧ IsW K H' p ns) (E := fun _ _ _ => False) ha ⟨fun c => absurd c (by omega), fun _ i n e => (by rw [inB_none b] at e; cases e), fun _ _ H' p s g => ⟨p, rfl, s, g⟩⟩ x dx hx hdx hne
  refine ⟨x', a', dx', ns', e, h1, h2, h3, h4, fun c1 c2 H' t s ht => ?_⟩
  obtain ⟨_, p, e', s', g⟩ := h5 c1 c2 H' t s ht
  cases e
  cases e'
  exact q _ s' g
def spLen (K : PySem.W.Frag) : Sp := fun vs H Q _ => ∃ (p : Addr) (ns : List Int), vs = [.ref p] ∧ IsW K H p ns ∧ Q (.int ns.length) H
theorem ok_Wants_len (T : Tx K mg) : Ok PG w K mg base CX0 2 (a_Wants_len K) p_Wants_len (spLen K) := by
  refine Ok.of 1 T.f_Wants_len sc_Wants_len bi_Wants_len (by decide) (fun vs H Q E h => ?_) (fun cdv A outer s H vs Q E hr h => ?_)
  · obtain ⟨_, _, rfl, _⟩ := h
    rfl
  · obtain ⟨p, ns, rfl, ⟨dx, t, h1, h2⟩, q⟩ := h
    refine ⟨_, pss_one (ps_ret (pe_callB call_len_seq (by rfl) T.m_len PySem.boot_len (pa_cons (pe_fld (pv 0) rfl) pa_nil))), ?_⟩
    refine ⟨_, rfl, p, _, dx, _, _, rfl, h1, T.cWants, T.nWants_numbers, rfl, t, _, rfl, .inr h2, ?_⟩
    rw [List.length_map]
    exact q
def spAbs (K : PySem.W.Frag) : Sp := fun vs H Q _ => ∃ (p : Addr) (ns : List Int), vs = [.ref p] ∧ IsW K H p ns ∧ Q (.int ns.sum) H
theorem ok_Wants_abs (T : Tx K mg) : Ok PG w K mg base CX0 2 (a_Wants_abs K) p_Wants_abs (spAbs K) := by
  refine Ok.of 1 T.f_Wants_abs sc_Wants_abs bi_Wants_abs (by decide) (fun vs H Q E h => ?_) (fun cdv A outer s H vs Q E hr h => ?_)
  · obtain ⟨_, _, rfl, _⟩ := h
    rfl
  · obtain ⟨p, ns, rfl, ⟨dx, t, h1, h2⟩, q⟩ := h
    refine ⟨_, pss_one (ps_ret (pe_callB (cr_sumA rfl) (by rfl) T.m_sum (by decide +kernel) (pa_cons (pe_fld (pv 0) rfl) pa_nil))), ?_⟩
    exact ⟨_, rfl, p, _, dx, _, _, rfl, h1, T.cWants, T.nWants_numbers, rfl, t, _, rfl, .inr h2, q⟩
abbrev xR (n : Int) : HO := .xd [("rest", .int n)]
abbrev xN (n : Int) : HO := .xd [("night", .int n)]
abbrev xC (i n : Int) : HO := .xd [("coming", .int n), ("person", .int i)]
def spRest (K : PySem.W.Frag) : Sp := fun vs H Q E => ∃ (n : Int), vs = [.int n] ∧ (¬ (0 ≤ n ∧ n ≤ 60) → Rs (c_BadRest K) (xR n) H E) ∧ (0 ≤ n ∧ n ≤ 60 → Q .non H)
theorem ok_check_rest (T : Tx K mg) : Ok PG w K mg base (L2.CX PG w) 3 (a_check_rest K) p_check_rest (spRest K) := by
  refine Ok.of 2 T.f_check_rest sc_check_rest bi_check_rest (by decide) (fun vs H Q E h => ?_) (fun cdv A outer s H vs Q E hr h => ?_)
  · obtain ⟨_, rfl, _⟩ := h
    rfl
  · obtain ⟨n, rfl, h1, h2⟩ := h
    obtain ⟨u1, cv1⟩ := T.v_GREATEST_REST
    refine ⟨_, pss_one (ps_if (pt_not (pt_chain op_le op_le pe_int (pv 0) (pe_glob (v := .int 60) rfl cv1 ⟨_, rfl⟩))) (pss_one (ps_raiseX rfl T.e_BadRest (by decide) (by decide) hr (takes_of rfl rfl rfl rfl) rfl (pa_cons (pv 0) pa_nil))) pss_nil), ?_⟩
    refine ⟨_, rfl, _, _, rfl, rfl, _, rfl, ite2 (fun c => ?_) (fun c => ?_)⟩
    · refine ⟨_, _, rfl, rfl, _, rfl, ite2 (fun d => ?_) (fun d => ?_)⟩
      · exact ⟨_, rfl, rfl, fun z hz => (h1 (fun y => by simp [y.2] at d)).now z hz⟩
      · exact h2 ⟨of_decide_eq_true c, by simpa using d⟩
    · refine ⟨_, rfl, iteT ?_⟩
      exact ⟨_, rfl, rfl, fun z hz => (h1 (fun y => c (decide_eq_true y.1))).now z hz⟩
def spNight (K : PySem.W.Frag) : Sp := fun vs H Q E => ∃ (n m : Int), vs = [.int n, .int m] ∧ (¬ (1 ≤ n ∧ n ≤ m) → Rs (c_NoNight K) (xN n) H E) ∧ (1 ≤ n ∧ n ≤ m → Q .non H)
theorem ok_check_night (T : Tx K mg) : Ok PG w K mg base (L2.CX PG w) 3 (a_check_night K) p_check_night (spNight K) := by
  refine Ok.of 2 T.f_check_night sc_check_night bi_check_night (by decide) (fun vs H Q E h => ?_) (fun cdv A outer s H vs Q E hr h => ?_)
  · obtain ⟨_, _, rfl, _⟩ := h
    rfl
  · obtain ⟨n, m, rfl, h1, h2⟩ := h
    refine ⟨_, pss_one (ps_if (pt_not (pt_chain op_le op_le pe_int (pv 0) (pv 1))) (pss_one (ps_raiseX rfl T.e_NoNight (by decide) (by decide) hr (takes_of rfl rfl rfl rfl) rfl (pa_cons (pv 0) pa_nil))) pss_nil), ?_⟩
    refine ⟨_, rfl, _, _, rfl, rfl, _, rfl, ite2 (fun c => ?_) (fun c => ?_)⟩
    · refine ⟨_, rfl, _, _, rfl, rfl, _, rfl, ite2 (fun d => ?_) (fun d => ?_)⟩
      · exact ⟨_, rfl, rfl, fun z hz => (h1 (fun y => by simp [y.2] at d)).now z hz⟩
      · exact h2 ⟨of_decide_eq_true c, by simpa using d⟩
    · refine ⟨_, rfl, iteT ?_⟩
      exact ⟨_, rfl, rfl, fun z hz => (h1 (fun y => c (decide_eq_true y.1))).now z hz⟩
end
end K10

set_option maxRecDepth 100000
set_option maxHeartbeats 4000000
namespace K10
open PySem PySem.Spec PyProof.Rows L2
/-- the first coming that is not from 1 to g -/
def badc (g : Int) : Nat → List Int → Option (Nat × Int)
  | _, [] => none
  | i, n :: ns => if 1 ≤ n ∧ n ≤ g then badc g (i + 1) ns else some (i, n)
theorem badc_step {g : Int} {k : Nat} {ns : List Int} {i : Nat} (h : badc g (k + i) (ns.drop i) = badc g k ns) {n : Int} (hn : ns[i]? = some n) : (1 ≤ n ∧ n ≤ g → badc g (k + (i + 1)) (ns.drop (i + 1)) = badc g k ns) ∧ (¬ (1 ≤ n ∧ n ≤ g) → badc g k ns = some (k + i, n)) := by
  obtain ⟨hi, e⟩ := List.getElem?_eq_some_iff.mp hn
  rw [List.drop_eq_getElem_cons hi, e] at h
  constructor
  · intro c
    rw [← h, badc, if_pos c]
    rfl
  · intro c
    rw [← h, badc, if_neg c]
theorem badc_end {g : Int} {k : Nat} {ns : List Int} (h : badc g (k + ns.length) (ns.drop ns.length) = badc g k ns) : badc g k ns = none := by
  rw [← h, List.drop_length]
  rfl
theorem badc_none {g : Int} : ∀ {k : Nat} {ns : List Int}, badc g k ns = none ↔ ∀ n ∈ ns, 1 ≤ n ∧ n ≤ g
  | _, [] => by simp [badc]
  | k, n :: ns => by
    rw [badc]
    split
    · rename_i c
      rw [badc_none (ns := ns)]
      simp [c]
    · rename_i c
      simp [c]
section
variable {w : World} {K : PySem.W.Frag} {mg : Str → Option Value} {base : Heap}
/-- at p a House of days, starts, gap -/
def IsH (K : PySem.W.Frag) (H : Hp) (p : Addr) (days starts : List Int) (gap : Int) : Prop := ∃ dx wp t, H p = some (.ins (c_House K) dx [("wants", .ref wp), ("comings", .ref t), ("rest", .int gap)]) ∧ IsW K H wp days ∧ SqT K H t (starts.map V.int) ∧ days.length ≤ 60 ∧ starts.length ≤ 30
theorem IsH.same {H H' : Hp} {p : Addr} {days starts : List Int} {gap : Int} (h : IsH K H p days starts gap) (s : Same H H') : IsH K H' p days starts gap := let ⟨dx, wp, t, a, b, c, d⟩ := h; ⟨dx, wp, t, s _ _ a, b.same s, s.seqT c, d⟩
/-- a house is made, or what is due comes -/
structure Hmkr (K : PySem.W.Frag) (days starts : List Int) (gap : Int) (H : Hp) (Q : VK) (E : XK) : Prop where
  long : 30 < starts.length → Rs (c_TooLong K) (xT starts.length) H E
  com : starts.length ≤ 30 → ∀ i n, badc (days.length + 1) 0 starts = some (i, n) → Rs (c_BadComing K) (xC (i : Nat) n) H E
  rst : starts.length ≤ 30 → badc (days.length + 1) 0 starts = none → ¬ (0 ≤ gap ∧ gap ≤ 60) → Rs (c_BadRest K) (xR gap) H E
  good : starts.length ≤ 30 → badc (days.length + 1) 0 starts = none → 0 ≤ gap ∧ gap ≤ 60 → ∀ H' p, Same H H' → IsH K H' p days starts gap → Q (.ref p) H'
theorem Hmkr.same {days starts : List Int} {gap : Int} {H H' : Hp} {Q : VK} {E : XK} (h : Hmkr K days starts gap H Q E) (s : Same H H') : Hmkr K days starts gap H' Q E :=
  ⟨fun c => (h.long c).same s, fun c i n e => (h.com c i n e).same s, fun c e r => (h.rst c e r).same s, fun c e r H2 p s2 g => h.good c e r H2 p (s.trans s2) g⟩
theorem sqL_ins {H : Hp} {a x C dx : Addr} {fs : List (Str × V)} {xs : List V} {o : HO} (h : SqL K H a xs) (hx : H x = some (.ins C dx fs)) : SqL K (upd H x o) a xs := by
  rcases h with (h | ⟨u, h⟩) | h
  · exact .inl (.inl (by rw [upd_ne (fun z => by rw [z, hx] at h; cases h)]; exact h))
  · exact .inl (.inr ⟨u, by rw [upd_ne (fun z => by rw [z, hx] at h; cases h)]; exact h⟩)
  · exact .inr h
theorem sqT_ins {H : Hp} {a x C dx : Addr} {fs : List (Str × V)} {xs : List V} {o : HO} (h : SqT K H a xs) (hx : H x = some (.ins C dx fs)) : SqT K (upd H x o) a xs := by
  rcases h with (h | ⟨u, h⟩) | h
  · exact .inl (.inl (by rw [upd_ne (fun z => by rw [z, hx] at h; cases h)]; exact h))
  · exact .inl (.inr ⟨u, by rw [upd_ne (fun z => by rw [z, hx] at h; cases h)]; exact h⟩)
  · exact .inr h
theorem upd_over {H : Hp} {x l : Addr} {i1 i3 o : HO} (h : l ≠ x) : upd (upd (upd H x i1) l o) x i3 = upd (upd H l o) x i3 := by
  funext b
  by_cases e : b = x
  · subst e
    rw [upd_same, upd_same]
  · rw [upd_ne e, upd_ne e]
    by_cases e2 : b = l
    · subst e2
      rw [upd_same, upd_same]
    · rw [upd_ne e2, upd_ne e2, upd_ne e]
def spHInit (K : PySem.W.Frag) : Sp := fun vs H Q E => ∃ (x wp a dx : Addr) (days starts : List Int) (gap : Int), vs = [.ref x, .ref wp, .ref a, .int gap] ∧ H x = some (.ins (c_House K) dx []) ∧ IsW K H wp days ∧ days.length ≤ 60 ∧ SqA K H a (starts.map V.int) ∧
  (30 < starts.length → Rs (c_TooLong K) (xT starts.length) H E) ∧ (starts.length ≤ 30 → ∀ i n, badc (days.length + 1) 0 starts = some (i, n) → Rs (c_BadComing K) (xC (i : Nat) n) H E) ∧
  (starts.length ≤ 30 → badc (days.length + 1) 0 starts = none → ¬ (0 ≤ gap ∧ gap ≤ 60) → Rs (c_BadRest K) (xR gap) H E) ∧
  (starts.length ≤ 30 → badc (days.length + 1) 0 starts = none → 0 ≤ gap ∧ gap ≤ 60 → ∀ H' t, Same H H' → SqT K H' t (starts.map V.int) → Q .non (upd H' x (.ins (c_House K) dx [("wants", .ref wp), ("comings", .ref t), ("rest", .int gap)])))
theorem fn_House_init (T : Tx K mg) {fd : FuncData} (F : FunD K "__init__" "House.__init__" (defArgs s_House_init) (defBody s_House_init) (defScope s_House_init) [] [("rest", .int 1)] (a_House_init K) fd) : FnOk PG w K mg base (L2.CX PG w) 5 (a_House_init K) fd p_House_init (spHInit K) := by
  refine F.ok (k := 4) sc_House_init (fun vs H Q E h => ?_) (fun cdv A outer s H vs Q E hr h => ?_)
  · obtain ⟨_, _, _, _, _, _, _, rfl, _⟩ := h
    rfl
  · obtain ⟨x, wp, a, dx, days, starts, gap, rfl, hx, hw, ld, ha, h1, h2, h3, h4⟩ := h
    have nd := sc_House_init.nd
    have hr3 := hr.mono (show 3 ≤ 4 by decide)
    obtain ⟨u1, cv1⟩ := T.v_MOST_PEOPLE
    refine ⟨_, pss_cons (ps_expr (pc (ok_check_count T) hr3 T.g_check_count px (pa_cons (pe_callB call_len_seq (by rfl) T.m_len PySem.boot_len (pa_cons (pv 2) pa_nil)) (pa_cons (pe_glob (v := .int 30) rfl cv1 ⟨_, rfl⟩) pa_nil))))
      (pss_cons (ps_for (passX rfl) rfl (pi_enumW (by rfl) T.m_enumerate (pa_cons (pv 2) pa_nil)) (pg_tup rfl (pgs_cons (pg_name (i := 4) nd rfl (.inl rfl)) (pgs_cons (pg_name (i := 5) nd rfl (.inl rfl)) pgs_nil)))
        (pss_one (ps_if (pt_not (pt_chain op_le op_le pe_int (pv 5) (pe_op op_add (pe_callB (cLen (ok_Wants_len T) T.wWants_len hr3 pass0) (by rfl) T.m_len PySem.boot_len (pa_cons (pv 1) pa_nil)) pe_int))) (pss_one (ps_raiseX rfl T.e_BadComing (by decide) (by decide) hr (takes_of rfl rfl rfl rfl) rfl (pa_cons (pv 4) (pa_cons (pv 5) pa_nil)))) pss_nil)))
      (pss_cons (ps_expr (pc (ok_check_rest T) hr3 T.g_check_rest px (pa_cons (pv 3) pa_nil)))
      (pss_cons (ps_fld (pv 0) (pv 1) rfl)
      (pss_cons (ps_fld (pv 0) (pe_callTy call_tuple_of (by rfl) T.m_tuple (by decide +kernel) (pa_cons (pv 2) pa_nil)) rfl)
      (pss_one (ps_fld (pv 0) (pv 3) rfl)))))), ?_⟩
    refine ⟨_, rfl, a, _, rfl, ha, _, _, rfl, fun c => ?_, fun c => ?_⟩
    · have := h1 (by rw [List.length_map] at c; omega)
      rw [List.length_map]
      exact this
    have l1 : starts.length ≤ 30 := by rw [List.length_map] at c; omega
    refine ⟨_, rfl, a, starts.map V.int, rfl, ha, fun J G hG wk => ?_⟩
    refine for_it wk (fun i σ H' => ∃ x4 x5, σ = [some (.ref x), some (.ref wp), some (.ref a), some (.int gap), x4, x5] ∧ Same H H' ∧ badc (days.length + 1) (0 + i) (starts.drop i) = badc (days.length + 1) 0 starts) ⟨none, none, rfl, .refl _, rfl⟩ (fun i σ H' _ p => hG H' p.choose_spec.choose_spec.2.1) (fun i y σ H0 H1 hi p z => ?_) (fun σ H' p => ?_)
    · obtain ⟨x4, x5, rfl, sm, hb⟩ := p
      obtain ⟨T', x', y', rfl, hT, rfl, e1, e2⟩ := z
      obtain ⟨n, hn, rfl⟩ := map_get e2
      cases e1
      have sm' : Same H (upd H0 T' (.tup [.int (i : Nat), .int n])) := sm.new' hT
      obtain ⟨b1, b2⟩ := badc_step hb hn
      have hw' := hw.same sm'
      obtain ⟨dw, u, w1, w2⟩ := id hw'
      have err : ¬ (1 ≤ n ∧ n ≤ (days.length : Int) + 1) → ∀ d, upd H0 T' (.tup [.int (i : Nat), .int n]) d = none → E (.ref (c_BadComing K)) (some d) (upd (upd H0 T' (.tup [.int (i : Nat), .int n])) d (xC (i : Nat) n)) := fun c d hd =>
        h2 l1 i n (by have := b2 c; rwa [Nat.zero_add] at this) _ d sm' hd
      refine ⟨T', _, rfl, SqT.of upd_same, rfl, _, _, rfl, _, _, rfl, rfl, ?_⟩
      refine ⟨_, rfl, _, _, rfl, rfl, _, rfl, ite2 (fun c => ?_) (fun c => ?_)⟩
      · refine ⟨_, rfl, wp, dw, _, rfl, w1, wp, days, rfl, hw', days.length, rfl, by omega, _, _, rfl, rfl, _, _, rfl, rfl, _, rfl, ite2 (fun d => ?_) (fun d => ?_)⟩
        · exact ⟨_, rfl, _, rfl, rfl, fun z hz => err (fun y => by simp [y.2] at d) z hz⟩
        · exact ⟨_, _, rfl, sm', b1 ⟨of_decide_eq_true c, by simpa using d⟩⟩
      · refine ⟨_, rfl, iteT ?_⟩
        exact ⟨_, rfl, _, rfl, rfl, fun z hz => err (fun y => c (decide_eq_true y.1)) z hz⟩
    · obtain ⟨x4, x5, rfl, sm, hb⟩ := p
      rw [List.length_map] at hb
      have hn := badc_end (k := 0) hb
      refine ⟨_, rfl, gap, rfl, fun c => (h3 l1 hn c).same sm, fun c => ?_⟩
      have hx1 := sm _ _ hx
      refine ⟨_, rfl, _, rfl, x, c_House K, dx, _, rfl, hx1, T.cHouse, T.nHouse_wants, by decide, ?_⟩
      have hx2 : upd H' x (.ins (c_House K) dx [("wants", .ref wp)]) x = some (.ins (c_House K) dx [("wants", .ref wp)]) := upd_same
      rcases sm.seqA ha with ha' | ha'
      · refine ⟨_, rfl, a, _, rfl, .inl ⟨sqL_ins ha' hx1, fun l hl => ?_⟩⟩
        have lx : l ≠ x := fun z => by rw [z, upd_same] at hl; cases hl
        have hl0 : H' l = none := by rw [upd_ne lx] at hl; exact hl
        have hx3 : upd (upd H' x (.ins (c_House K) dx [("wants", .ref wp)])) l (.tup (starts.map V.int)) x = some (.ins (c_House K) dx [("wants", .ref wp)]) := by rw [upd_ne (Ne.symm lx)]; exact hx2
        refine ⟨_, rfl, x, c_House K, dx, _, rfl, hx3, T.cHouse, T.nHouse_comings, (by show 1 < 1000; decide), ?_⟩
        refine ⟨_, rfl, _, rfl, x, c_House K, dx, _, rfl, upd_same, T.cHouse, T.nHouse_rest, (by show 2 < 1000; decide), ?_⟩
        rw [upd_upd, upd_over lx]
        exact h4 l1 hn c (upd H' l (.tup (starts.map V.int))) l (sm.new' hl0) (SqT.of upd_same)
      · refine ⟨_, rfl, a, _, rfl, .inr ⟨sqT_ins ha' hx1, ?_⟩⟩
        refine ⟨_, rfl, x, c_House K, dx, _, rfl, hx2, T.cHouse, T.nHouse_comings, (by show 1 < 1000; decide), ?_⟩
        refine ⟨_, rfl, _, rfl, x, c_House K, dx, _, rfl, upd_same, T.cHouse, T.nHouse_rest, (by show 2 < 1000; decide), ?_⟩
        rw [upd_upd, upd_upd]
        exact h4 l1 hn c H' a sm ha'
end
end K10

set_option maxRecDepth 100000
set_option maxHeartbeats 4000000
namespace L2
open PySem PySem.Spec PyProof.Rows
theorem pprop {X : Cx} {CX : CXT} {k : Nat} {C p g : Addr} {f : Str} {ps : List Str} {sp : Sp} {E : XK} {e : Expr} {pos : Pos} {ta : TE} (O : Ok X.prog X.w X.K X.mg X.base CX k g ps sp) (he : PE X e ta) (c : Cls X.K C) (hp : PropOf X.K C f p g) (hr : Room (k + 1) X.A) (hx : Passes CX X.nox E)
    (hab : attributeBase e f X.env (eval e X.env) = eval e X.env := by rfl) : PE X (.Attribute e f pos) (tProp C sp [] E ta) := let ⟨_, a, b, _⟩ := O.ex; pe_prop he c hp a hr b .nil hx hab
end L2
namespace K10
open PySem PySem.Spec PyProof.Rows L2
section
variable {w : World} {K : PySem.W.Frag} {mg : Str → Option Value} {base : Heap}
abbrev HInitD (K : PySem.W.Frag) (fd : FuncData) : Prop := FunD K "__init__" "House.__init__" (defArgs s_House_init) (defBody s_House_init) (defScope s_House_init) [] [("rest", .int 1)] (a_House_init K) fd
theorem bi_HK {fd : FuncData} (F : HInitD K fd) : ∃ mv : List Value, KBn K fd p_House_init 3 ["rest"] (fun us ws => us ++ ws) (fun vs zs => vs ++ zs) :=
  F.kbinds0 3 ["rest"] [] (fun us _ ws => us ++ ws) (by simp) (by simp) (fun r1 _ r3 => r1.append r3) (fun _ _ _ _ _ _ us mv ws hl hi hw => match us, mv, ws, hl, hi, hw with | [_, _, _], [], [_], _, _, _ => rfl)
theorem bi_H1 {fd : FuncData} (F : HInitD K fd) : ∃ ds, Vals [V.int 1] ds ∧ Binds K fd p_House_init ds :=
  F.binds0 3 (by simp) rfl (fun _ _ _ _ _ _ us ks hl hk => match us, ks, hl, hk with | [_, _, _], [_], _, _ => ⟨_, _, _, _, _, _, rfl, rfl, rfl⟩)
end
end K10

set_option maxRecDepth 100000
set_option maxHeartbeats 8000000
namespace K10
open PySem PySem.Spec PyProof.Rows L2
section
variable {w : World} {K : PySem.W.Frag} {mg : Str → Option Value} {base : Heap}
theorem mk_house {H : Hp} {wp a : Addr} {days starts : List Int} {gap : Int} {Q : VK} {E : XK} (hw : IsW K H wp days) (ld : days.length ≤ 60) (ha : SqA K H a (starts.map V.int)) (h : Hmkr K days starts gap H Q E) : ∀ x dx, H x = none → H dx = none → dx ≠ x →
    spHInit K ([.ref x, .ref wp, .ref a, .int gap]) (upd (upd H dx (.own x)) x (.ins (c_House K) dx [])) (fun v H2 => v = .non ∧ Q (.ref x) H2) E := by
  intro x dx hx hdx hne
  have s1 : Same H (upd (upd H dx (.own x)) x (.ins (c_House K) dx [])) := (Same.new hdx).new' (by rw [upd_ne (Ne.symm hne)]; exact hx)
  refine ⟨x, wp, a, dx, days, starts, gap, rfl, upd_same, hw.same s1, ld, s1.seqA ha, fun c => (h.long c).same s1, fun c i n e => (h.com c i n e).same s1, fun c e r => (h.rst c e r).same s1, fun c e r H' t s2 ht => ⟨rfl, ?_⟩⟩
  have hx' : H' x = some (.ins (c_House K) dx []) := s2 _ _ upd_same
  have ms : Same H (upd H' x (.ins (c_House K) dx [("wants", .ref wp), ("comings", .ref t), ("rest", .int gap)])) := fun b o q => by
    have : b ≠ x := fun z => by rw [z, hx] at q; cases q
    rw [upd_ne this]
    exact s2 _ _ (s1 _ _ q)
  exact h.good c e r _ x ms ⟨dx, wp, t, upd_same, hw.same ms, sqT_ins ht hx', ld, c⟩
def spDaysN (K : PySem.W.Frag) : Sp := fun vs H Q _ => ∃ (p : Addr) (days starts : List Int) (gap : Int), vs = [.ref p] ∧ IsH K H p days starts gap ∧ Q (.int days.length) H
theorem ok_House_nights (T : Tx K mg) : Ok PG w K mg base CX0 4 (a_House_nights K) p_House_nights (spDaysN K) := by
  refine Ok.of 3 T.f_House_nights sc_House_nights bi_House_nights (by decide) (fun vs H Q E h => ?_) (fun cdv A outer s H vs Q E hr h => ?_)
  · obtain ⟨_, _, _, _, rfl, _⟩ := h
    rfl
  · obtain ⟨p, days, starts, gap, rfl, ⟨dx, wp, t, h1, h2, h3, l1, l2⟩, q⟩ := h
    obtain ⟨dw, u, w1, w2⟩ := id h2
    refine ⟨_, pss_one (ps_ret (pe_callB (cLen (ok_Wants_len T) T.wWants_len hr pass0) (by rfl) T.m_len PySem.boot_len (pa_cons (pe_fld (pv 0) rfl) pa_nil))), ?_⟩
    exact ⟨_, rfl, p, _, dx, _, _, rfl, h1, T.cHouse, T.nHouse_wants, rfl, wp, dw, _, rfl, w1, wp, days, rfl, h2, days.length, rfl, by omega, q⟩
def spPeopleN (K : PySem.W.Frag) : Sp := fun vs H Q _ => ∃ (p : Addr) (days starts : List Int) (gap : Int), vs = [.ref p] ∧ IsH K H p days starts gap ∧ Q (.int starts.length) H
theorem ok_House_people (T : Tx K mg) : Ok PG w K mg base CX0 2 (a_House_people K) p_House_people (spPeopleN K) := by
  refine Ok.of 1 T.f_House_people sc_House_people bi_House_people (by decide) (fun vs H Q E h => ?_) (fun cdv A outer s H vs Q E hr h => ?_)
  · obtain ⟨_, _, _, _, rfl, _⟩ := h
    rfl
  · obtain ⟨p, days, starts, gap, rfl, ⟨dx, wp, t, h1, h2, h3, l1, l2⟩, q⟩ := h
    refine ⟨_, pss_one (ps_ret (pe_callB call_len_seq (by rfl) T.m_len PySem.boot_len (pa_cons (pe_fld (pv 0) rfl) pa_nil))), ?_⟩
    refine ⟨_, rfl, p, _, dx, _, _, rfl, h1, T.cHouse, T.nHouse_comings, rfl, t, _, rfl, .inr h3, ?_⟩
    rw [List.length_map]
    exact q
def firstOf (gap n : Int) : Int := if n - gap > 1 then n - gap else 1
def spStretch (K : PySem.W.Frag) : Sp := fun vs H Q E => ∃ (p : Addr) (days starts : List Int) (gap n : Int), vs = [.ref p, .int n] ∧ IsH K H p days starts gap ∧ (¬ (1 ≤ n ∧ n ≤ days.length) → Rs (c_NoNight K) (xN n) H E) ∧
  (1 ≤ n ∧ n ≤ days.length → ∀ t, H t = none → Q (.ref t) (upd H t (.tup [.int (firstOf gap n), .int n])))
theorem ok_House_stretch (T : Tx K mg) : Ok PG w K mg base (L2.CX PG w) 6 (a_House_stretch K) p_House_stretch (spStretch K) := by
  refine Ok.of 5 T.f_House_stretch sc_House_stretch bi_House_stretch (by decide) (fun vs H Q E h => ?_) (fun cdv A outer s H vs Q E hr h => ?_)
  · obtain ⟨_, _, _, _, _, rfl, _⟩ := h
    rfl
  · obtain ⟨p, days, starts, gap, n, rfl, hh, e1, q⟩ := h
    obtain ⟨dx, wp, t, h1, h2, h3, l1, l2⟩ := id hh
    refine ⟨_, pss_cons (ps_expr (pc (ok_check_night T) (hr.mono (by decide)) T.g_check_night px (pa_cons (pv 1) (pa_cons (pprop (ok_House_nights T) (pv 0) T.cHouse T.wHouse_nights hr pass0) pa_nil))))
      (pss_one (ps_ret (pe_tup (pa_cons (pe_callB (call_max2 rfl) (by rfl) T.m_max (by decide +kernel) (pa_cons pe_int (pa_cons (pe_op op_sub (pv 1) (pe_fld (pv 0) rfl)) pa_nil))) (pa_cons (pv 1) pa_nil))))), ?_⟩
    refine ⟨_, rfl, _, rfl, p, dx, _, rfl, h1, p, days, starts, gap, rfl, hh, n, _, rfl, e1, fun c => ?_⟩
    exact ⟨_, rfl, _, rfl, p, _, dx, _, _, rfl, h1, T.cHouse, T.nHouse_rest, rfl, _, _, rfl, rfl, _, _, rfl, _, rfl, by show 2 ≤ sizeLine; decide, fun t ht => q c t ht⟩
end
end K10

set_option maxRecDepth 100000
set_option maxHeartbeats 8000000
namespace K10
open PySem PySem.Spec PyProof.Rows L2
section
variable {w : World} {K : PySem.W.Frag} {mg : Str → Option Value} {base : Heap}
theorem it_Wants (T : Tx K mg) : OwnIt K mg (c_Wants K) (a_Wants_iter K) "numbers" := by
  obtain ⟨fd, F⟩ := T.f_Wants_iter
  exact ownIt_of T.cWants T.nWants_numbers T.wWants_iter.1 T.wWants_iter.2 T.m_iter F ⟨_, _, _, _, _, rfl, fun env h => by obtain ⟨⟩ := env; cases h; rfl⟩ ⟨rfl, rfl, by decide +kernel, rfl, rfl, rfl⟩ fun s fd v h1 h2 h3 => .of_eq (by obtain ⟨⟩ := fd; cases h1; cases h2; cases h3; rfl)
def spAt (K : PySem.W.Frag) : Sp := fun vs H Q E => ∃ (p : Addr) (ns : List Int) (i : Int), vs = [.ref p, .int i] ∧ IsW K H p ns ∧ 1 ≤ i ∧ i ≤ ns.length ∧ Q (.int (ns.getD (i.toNat - 1) 0)) H
theorem ok_Wants_getitem (T : Tx K mg) : Ok PG w K mg base (L2.CX PG w) 4 (a_Wants_getitem K) p_Wants_getitem (spAt K) := by
  refine Ok.of 3 T.f_Wants_getitem sc_Wants_getitem bi_Wants_getitem (by decide) (fun vs H Q E h => ?_) (fun cdv A outer s H vs Q E hr h => ?_)
  · obtain ⟨_, _, _, rfl, _⟩ := h
    rfl
  · obtain ⟨p, ns, i, rfl, hp, i1, i2, q⟩ := h
    obtain ⟨dx, t, h1, h2⟩ := id hp
    refine ⟨_, pss_cons (ps_expr (pc (ok_check_night T) hr T.g_check_night px (pa_cons (pv 1) (pa_cons (pe_callB call_len_seq (by rfl) T.m_len PySem.boot_len (pa_cons (pe_fld (pv 0) rfl) pa_nil)) pa_nil))))
      (pss_one (ps_ret (pe_ix ix_tup (pe_fld (pv 0) rfl) (pe_op op_sub (pv 1) pe_int) (fun _ _ => rfl)))), ?_⟩
    refine ⟨_, rfl, _, rfl, p, _, dx, _, _, rfl, h1, T.cWants, T.nWants_numbers, rfl, t, _, rfl, .inr h2, i, _, rfl, fun c => absurd ⟨i1, by rw [List.length_map]; exact i2⟩ c, fun _ => ?_⟩
    obtain ⟨j, rfl⟩ : ∃ j : Nat, i = (j : Nat) + 1 := ⟨(i - 1).toNat, by omega⟩
    have hj : j < ns.length := by omega
    have e : ns.getD (((j : Int) + 1).toNat - 1) 0 = ns[j] := by
      rw [show ((j : Int) + 1).toNat - 1 = j by omega, List.getD_eq_getElem?_getD, List.getElem?_eq_getElem hj]; rfl
    rw [e] at q
    exact ⟨_, rfl, p, _, dx, _, _, rfl, h1, T.cWants, T.nWants_numbers, rfl, _, rfl, _, _, rfl, rfl, t, _, _, _, rfl, rfl, h2, (by rw [show (j : Int) + 1 - 1 = (j : Nat) by omega]; exact atI_nat (by rw [List.getElem?_map, List.getElem?_eq_getElem hj]; rfl)), q⟩
end
end K10

set_option maxRecDepth 100000
set_option maxHeartbeats 4000000
/-! # Lists of numbers drawn from a pool -/
namespace L2
open PySem PySem.Spec PyProof.Rows
/-- [f(pool) for x in range(..)] -/
theorem lc_draws {lo : Int} {n i0 : Nat} {te : TE} {vs : List Nat} {σ : L2.St} {H1 : Hp} {D p : Addr} {st : List V} {Qd : Hp → Prop} {C : Int → Prop} (hp : H1 p = some (.lst st)) (ok : PoolOk st) (hD : H1 D = none) (hn : n ≤ 10000)
    (hte : ∀ (i : Nat) (H2 : Hp) (st2 : List V), H2 p = some (.lst st2) → PoolOk st2 → But p H1 H2 → wipe ((wipe σ vs).set i0 (some (.int (lo + (i : Nat))))) vs = wipe σ vs ∧ ∀ Q : VK, (∀ v H3 st3, C v → But p H2 H3 → H3 p = some (.lst st3) → PoolOk st3 → Q (.int v) H3) → te ((wipe σ vs).set i0 (some (.int (lo + (i : Nat))))) H2 Q)
    (hd : ∀ (H' : Hp) (ns : List Int) (st' : List V), But p H1 H' → H' p = some (.lst st') → PoolOk st' → H' D = some (.lst (ns.map V.int)) → ns.length = n → (∀ x ∈ ns, C x) → Qd H') :
    ∃ W : Nat → Nat → Hp → Prop, (∃ m, W 0 m (upd H1 D (.lst []))) ∧ ∀ i m H, W i m H →
      ((Itr lo n).stop i H ∧ Qd H) ∨ ((Itr lo n).go i H ∧ ∃ Nx : Hp → Prop, (∀ H', Nx H' → ∃ m', m' < m ∧ W (i + 1) m' H') ∧ ∀ x H', (Itr lo n).yld i H x H' → gName i0 x (wipe σ vs) H' fun σ2 H2 => wipe σ2 vs = wipe σ vs ∧ tYes σ2 H2 fun b H3 =>
        if b = true then te σ2 H3 fun y H4 => ∃ acc, H4 D = some (.lst acc) ∧ acc.length < sizeLine ∧ Nx (upd H4 D (.lst (acc ++ [y]))) else Nx H3) := by
  have dp : D ≠ p := fun z => by rw [z, hp] at hD; cases hD
  refine lc_range (lo := lo) (n := n) (fun i H' => ∃ (ns : List Int) (st' : List V), But p H1 H' ∧ H' p = some (.lst st') ∧ PoolOk st' ∧ H' D = some (.lst (ns.map V.int)) ∧ ns.length = i ∧ ∀ x ∈ ns, C x) ⟨[], st, .of (.new hD), by rw [upd_ne (Ne.symm dp)]; exact hp, ok, upd_same, rfl, fun x hx => by cases hx⟩ ?_ ?_
  · rintro i H' hi ⟨ns, st', bt, hp', ok', hl, hn', hb⟩
    obtain ⟨e1, e2⟩ := hte i H' st' hp' ok' bt
    refine ⟨e1, yesT (e2 _ fun v H3 st3 hv b3 hp3 ok3 => ?_)⟩
    refine ⟨ns.map V.int, b3 _ _ dp hl, by rw [List.length_map, hn', sizeLine_eq]; omega, ns ++ [v], st3, fun c o nc hc => ?_, ?_, ok3, ?_, ?_, fun x hx => ?_⟩
    · have nD : c ≠ D := fun z => by rw [z, hD] at hc; cases hc
      rw [upd_ne nD]
      exact b3 c o nc (bt c o nc hc)
    · rw [upd_ne (Ne.symm dp)]; exact hp3
    · rw [upd_same, List.map_append]; rfl
    · rw [List.length_append, hn']; rfl
    · rcases List.mem_append.mp hx with hx | hx
      · exact hb x hx
      · rw [List.mem_singleton.mp hx]; exact hv
  · rintro H' ⟨ns, st', bt, hp', ok', hl, hn', hb⟩
    exact hd H' ns st' bt hp' ok' hl hn' hb
theorem But.none {p l : Addr} {H H' : Hp} {o : HO} (b : But p H H') (hp : H' p = some o) (h : H' l = Option.none) : H l = Option.none := by
  cases e : H l with
  | none => rfl
  | some u =>
    have n : l ≠ p := fun z => by rw [z, hp] at h; cases h
    rw [b l u n e] at h
    cases h
end L2

set_option maxRecDepth 100000
set_option maxHeartbeats 8000000
namespace K10
open PySem PySem.Spec PyProof.Rows L2
/-- a new list of numbers from the pool -/
def NewRow (p : Addr) (H : Hp) (C : List Int → Prop) (Q : VK) : Prop := ∀ (H' : Hp) (l : Addr) (ns : List Int) (st' : List V), But p H H' → H' p = some (.lst st') → PoolOk st' → H l = none → H' l = some (.lst (ns.map V.int)) → C ns → Q (.ref l) H'
/-- a number from the pool -/
def NewNum (p : Addr) (H : Hp) (C : Int → Prop) (Q : VK) : Prop := ∀ (v : Int) (H' : Hp) (st' : List V), C v → But p H H' → H' p = some (.lst st') → PoolOk st' → Q (.int v) H'
section
variable {w : World} {K : PySem.W.Frag} {mg : Str → Option Value} {base : Heap}
def spSize : Sp := fun vs H Q _ => ∃ (p : Addr) (st : List V) (m : Int), vs = [.ref p, .int m] ∧ 0 < m ∧ m ≤ 100 ∧ H p = some (.lst st) ∧ PoolOk st ∧ NewNum p H (fun v => 0 ≤ v ∧ v ≤ m) Q
theorem ok_law_size (T : Tx K mg) : Ok PG w K mg base CX0 3 (a_law_size K) p_law_size spSize := by
  refine Ok.of 2 T.f_law_size sc_law_size bi_law_size (by decide) (fun vs H Q E h => ?_) (fun cdv A outer s H vs Q E hr h => ?_)
  · obtain ⟨_, _, _, rfl, _⟩ := h
    rfl
  · obtain ⟨p, st, m, rfl, m0, m1, hp, ok, q⟩ := h
    have mn : m.natAbs < 2 ^ 200 := Nat.lt_trans (show m.natAbs < 2 ^ 10 by omega) (by decide)
    refine ⟨_, pss_cons (ps_if (pt_cmpR op_eq (pc (ok_law_draw T) hr T.g_law_draw pass0 (pa_cons (pv 0) (pa_cons pe_int pa_nil))) pe_int (nomark _)) (pss_one (ps_ret pe_int)) pss_nil)
      (pss_one (ps_ret (pe_op op_add pe_int (pe_callB (call_max2 rfl) (by rfl) T.m_max (by decide +kernel) (pa_cons (pc (ok_law_draw T) hr T.g_law_draw pass0 (pa_cons (pv 0) (pa_cons (pv 1) pa_nil))) (pa_cons (pc (ok_law_draw T) hr T.g_law_draw pass0 (pa_cons (pv 0) (pa_cons (pv 1) pa_nil))) pa_nil)))))), ?_⟩
    refine ⟨_, rfl, p, st, 8, rfl, by decide, by decide, hp, ok, fun v st1 _ _ ok1 => ?_⟩
    refine ⟨rfl, _, rfl, ite2 (fun c => ?_) (fun c => ?_)⟩
    · exact q 0 _ st1 ⟨by omega, by omega⟩ .set upd_same ok1
    · refine ⟨_, rfl, _, rfl, p, st1, m, rfl, m0, mn, upd_same, ok1, fun a st2 a0 a1 ok2 => ?_⟩
      refine ⟨_, rfl, _, rfl, p, st2, m, rfl, m0, mn, upd_same, ok2, fun b st3 b0 b1 ok3 => ?_⟩
      exact ⟨_, _, rfl, _, _, rfl, rfl, q _ _ st3 (by split <;> constructor <;> omega) ((But.set.trans .set).trans .set) upd_same ok3⟩
def spComings : Sp := fun vs H Q _ => ∃ (p : Addr) (st : List V) (m n : Int), vs = [.ref p, .int m, .int n] ∧ 0 ≤ m ∧ m ≤ 100 ∧ 0 ≤ n ∧ n ≤ 100 ∧ H p = some (.lst st) ∧ PoolOk st ∧ NewRow p H (fun ns => ns.length = m.toNat ∧ ∀ x ∈ ns, 1 ≤ x ∧ x ≤ n + 1) Q
theorem ok_law_comings (T : Tx K mg) : Ok PG w K mg base CX0 3 (a_law_comings K) p_law_comings spComings := by
  refine Ok.of 2 T.f_law_comings sc_law_comings bi_law_comings (by decide) (fun vs H Q E h => ?_) (fun cdv A outer s H vs Q E hr h => ?_)
  · obtain ⟨_, _, _, _, rfl, _⟩ := h
    rfl
  · obtain ⟨p, st, m, n, rfl, m0, m1, n0, n1, hp, ok, q⟩ := h
    have nd := sc_law_comings.nd
    have nn : (n + 1).natAbs < 2 ^ 200 := Nat.lt_trans (show (n + 1).natAbs < 2 ^ 10 by omega) (by decide)
    refine ⟨_, pss_cons (ps_set (i := 3) nd rfl (.inl rfl) (pe_lst pa_nil))
      (pss_cons (ps_for (passX rfl) rfl (pi_range1 rfl T.m_range (pa_cons (pv 1) pa_nil)) (pg_name (i := 4) nd rfl (.inl rfl))
        (pss_cons (ps_set (i := 5) nd rfl (.inl rfl) pe_int)
        (pss_cons (ps_if (pt_cmpR op_eq (pc (ok_law_draw T) hr T.g_law_draw pass0 (pa_cons (pv 0) (pa_cons pe_int pa_nil))) pe_int (nomark _)) (pss_one (ps_set (i := 5) nd rfl (.inl rfl) (pe_op op_add pe_int (pc (ok_law_draw T) hr T.g_law_draw pass0 (pa_cons (pv 0) (pa_cons (pe_op op_add (pv 2) pe_int) pa_nil)))))) pss_nil)
        (pss_one (ps_expr (pe_bm PySem.F.plainAttrs_list PySem.F.slot_list_append PySem.F.type_list_append mt_append (pv 3) (pa_cons (pv 5) pa_nil)))))))
      (pss_one (ps_ret (pv 3)))), ?_⟩
    refine ⟨by show 0 ≤ sizeLine; decide, fun L hL => ?_⟩
    have nLp : L ≠ p := fun z => by rw [z, hp] at hL; cases hL
    refine ⟨_, rfl, m, rfl, by omega, by omega, ?_⟩
    refine for_range (lo := 0) (n := m.toNat) (fun i σ H' => ∃ x4 x5 ns st', σ = [some (.ref p), some (.int m), some (.int n), some (.ref L), x4, x5] ∧ But p H H' ∧ H' p = some (.lst st') ∧ PoolOk st' ∧ H' L = some (.lst (ns.map V.int)) ∧ ns.length = i ∧ ∀ x ∈ ns, 1 ≤ x ∧ x ≤ n + 1)
      ⟨_, _, [], st, rfl, .of (.new hL), by rw [upd_ne (Ne.symm nLp)]; exact hp, ok, upd_same, rfl, fun x hx => by cases hx⟩ ?_ ?_
    · rintro i σ H' hi ⟨x4, x5, ns, st', rfl, bt, hp', ok', hl, ln, bn⟩
      have go : ∀ (v : Int) (Hx : Hp) (stx : List V), 1 ≤ v → v ≤ n + 1 → But p H' Hx → Hx p = some (.lst stx) → PoolOk stx → ∃ (x4 x5 : Option V) (ns2 : List Int) (st' : List V), [some (V.ref p), some (V.int m), some (V.int n), some (V.ref L), some (V.int (0 + (i : Nat))), some (V.int v)] = [some (.ref p), some (.int m), some (.int n), some (.ref L), x4, x5] ∧ But p H (upd Hx L (.lst (ns.map V.int ++ [.int v]))) ∧ upd Hx L (.lst (ns.map V.int ++ [.int v])) p = some (.lst st') ∧ PoolOk st' ∧ upd Hx L (.lst (ns.map V.int ++ [.int v])) L = some (.lst (ns2.map V.int)) ∧ ns2.length = i + 1 ∧ ∀ x ∈ ns2, 1 ≤ x ∧ x ≤ n + 1 := fun v Hx stx v0 v1 bx hx okx => by
        refine ⟨_, _, ns ++ [v], stx, rfl, fun b o nb eb => ?_, ?_, okx, ?_, ?_, fun x hx => ?_⟩
        · rw [upd_ne (fun z => by rw [z, hL] at eb; cases eb)]
          exact bx b o nb (bt b o nb eb)
        · rw [upd_ne (Ne.symm nLp)]; exact hx
        · rw [upd_same, List.map_append]; rfl
        · rw [List.length_append, ln]; rfl
        · rcases List.mem_append.mp hx with z | z
          · exact bn x z
          · rw [List.mem_singleton.mp z]; exact ⟨v0, v1⟩
      have lz : (ns.map V.int).length < sizeLine := by rw [List.length_map, sizeLine_eq]; omega
      refine ⟨_, rfl, p, st', 3, rfl, by decide, by decide, hp', ok', fun v st1 _ _ ok1 => ?_⟩
      have b1 : But p H' (upd H' p (.lst st1)) := .set
      refine ⟨rfl, _, rfl, ite2 (fun c => ?_) (fun c => ?_)⟩
      · refine ⟨_, rfl, _, rfl, _, _, rfl, rfl, p, st1, n + 1, rfl, by omega, nn, upd_same, ok1, fun u st2 u0 u1 ok2 => ⟨_, _, rfl, rfl, ?_⟩⟩
        have b2 : But p H' (upd (upd H' p (.lst st1)) p (.lst st2)) := b1.trans .set
        have hl2 := b2 _ _ nLp hl
        exact ⟨_, rfl, .inl ⟨rfl, _, SqL.of hl2⟩, _, rfl, L, _, _, rfl, rfl, hl2, lz, go (1 + u) _ st2 (by omega) (by omega) b2 upd_same ok2⟩
      · have hl1 := b1 _ _ nLp hl
        exact ⟨_, rfl, .inl ⟨rfl, _, SqL.of hl1⟩, _, rfl, L, _, _, rfl, rfl, hl1, lz, go 1 _ st1 (by omega) (by omega) b1 upd_same ok1⟩
    · rintro σ H' ⟨x4, x5, ns, st', rfl, bt, hp', ok', hl, ln, bn⟩
      exact ⟨_, rfl, q H' L ns st' bt hp' ok' hL hl ⟨ln, bn⟩⟩
end
end K10

set_option maxRecDepth 100000
set_option maxHeartbeats 4000000
/-! # zip(t, u), two tuples -/
namespace L2
open PySem PySem.Spec PyProof.Rows
def ItzT (K : PySem.W.Frag) (a b : Addr) : It :=
  ⟨fun i H => ∃ xs ys : List V, SqT K H a xs ∧ SqT K H b ys ∧ i < xs.length ∧ i < ys.length,
   fun i H v H' => ∃ T x y, v = .ref T ∧ H T = none ∧ H' = upd H T (.tup [x, y]) ∧ (∀ xs, SqT K H a xs → xs[i]? = some x) ∧ ∀ ys, SqT K H b ys → ys[i]? = some y,
   fun i H => ∃ xs ys : List V, SqT K H a xs ∧ SqT K H b ys ∧ min xs.length ys.length = i⟩
/-- what the five cells of the walk look like at turn i -/
def ZipAt (z TI TO i1 i2 a b : Addr) (i : Nat) (h : Heap) : Prop := IsZip h z TI TO .none ∧ IsTupOf2 h TI (.ref i1) (.ref i2) ∧ (∃ a1 a2, IsTupOf2 h TO a1 a2) ∧ h.IsTupleIter i1 a i ∧ h.IsTupleIter i2 b i
theorem turn_zipT {P : Program} {w : World} {K : PySem.W.Frag} {elts : List Expr} {kk : Nat} {tpos : Pos} {a b z TI TO i1 i2 : Addr} (S : ZipSep2 z TI TO i1 i2 [i1, a] [i2, b]) :
    Turn P w K (.Tuple elts kk tpos) (ItzT K a b) [z, TI, TO, i1, i2] z (ZipAt z TI TO i1 i2 a b) where
  mem := by simp
  obj := fun i h st c hc => by
    obtain ⟨h1, h2, ⟨a1, a2, h3⟩, ⟨o4, h4, _, d4⟩, ⟨o5, h5, _, d5⟩⟩ := st
    have e' : c = z ∨ c = TI ∨ c = TO ∨ c = i1 ∨ c = i2 := by simpa using hc
    rcases e' with q | q | q | q | q <;> subst q
    · exact ⟨_, h1, fun v q => nomatch q⟩
    · exact ⟨_, h2, fun v q => nomatch q⟩
    · exact ⟨_, h3, fun v q => nomatch q⟩
    · exact ⟨o4, h4, fun v q => by rw [d4] at q; cases q⟩
    · exact ⟨o5, h5, fun v q => by rw [d5] at q; cases q⟩
  keep := fun i h h' st k => by
    obtain ⟨h1, h2, ⟨a1, a2, h3⟩, h4, h5⟩ := st
    exact ⟨k z (by simp) _ h1, k TI (by simp) _ h2, ⟨a1, a2, k TO (by simp) _ h3⟩, h4.at fun o q => k i1 (by simp) o q, h5.at fun o q => k i2 (by simp) o q⟩
  item := by
    intro X hP hw hK hc i pins s σ H E I hf st hg
    subst hP hw hK
    obtain ⟨h1, h2, h3, h4, h5⟩ := st
    obtain ⟨xs, ys, hx, hy, lx, ly⟩ := hg
    obtain ⟨its, rv, p, _⟩ := I.tuple hx
    obtain ⟨its2, rv2, p2, _⟩ := I.tuple hy
    have dif : ∀ {t u : Addr} {j : Nat} {js : Array Value}, s.heap.IsTupleIter t u j → ∀ {c : Addr}, s.heap.IsTuple c js → c ≠ t := fun {t u j js} hi {c} ht e => by
      obtain ⟨o, ho, hcls, _⟩ := ht
      obtain ⟨o2, ho2, hc2, _⟩ := hi
      rw [e, ho2] at ho
      cases ho
      rw [hc2] at hcls
      exact absurd hcls (by decide)
    have W := GoesN.zip2 (prog := X.prog) (w := X.w) (A := X.A) (elts := elts) (x1 := kk) (pos := tpos) S (Draws.tuple (prog := X.prog) (w := X.w) (A := X.A.in1) (I.ok.hd hc) i1 a (dif h4 p) its.toArray) (Draws.tuple (prog := X.prog) (w := X.w) (A := X.A.in1) (I.ok.hd hc) i2 b (dif h5 p2) its2.toArray)
    have n1 : i < min its.toArray.size its2.toArray.size := by
      rw [List.size_toArray, List.size_toArray, ← rv.length, ← rv2.length]
      omega
    refine wpAny_mono (W.goes i s _ E n1 ⟨h1, h2, h3, ⟨h4, p⟩, h5, p2⟩ fun v h' tk hY st' hk htk => ?_) (fun r s1 hr => hr) fun _ _ q => q
    obtain ⟨T, u1, u2, rfl, hT, e1, e2, hTup⟩ := hY
    obtain ⟨g1, g2, g3, ⟨g4, _⟩, g5, _⟩ := st'
    have hxi : xs[i]? = some xs[i] := List.getElem?_eq_getElem lx
    have hyi : ys[i]? = some ys[i] := List.getElem?_eq_getElem ly
    obtain ⟨v1, hv1, r1⟩ := rv.get hxi
    obtain ⟨v2, hv2, r2⟩ := rv2.get hyi
    have q1 : u1 = v1 := by
      have : its[i]? = some u1 := by simpa using e1
      rw [hv1] at this; exact (Option.some.inj this).symm
    have q2 : u2 = v2 := by
      have : its2[i]? = some u2 := by simpa using e2
      rw [hv2] at this; exact (Option.some.inj this).symm
    subst q1 q2
    have I1 : Inv X pins σ (upd H T (.tup [xs[i], ys[i]])) { s with heap := h', toks := tk } :=
      I.turnedNew (ch := [z, TI, TO, i1, i2]) (fun c o hb q => hk c o (fun m => hb (by
        have e' : c = z ∨ c = TO ∨ c = i1 ∨ c = i2 := by simpa using m
        rcases e' with q | q | q | q <;> simp [q])) q) hf hT ⟨by show 2 ≤ sizeLine; decide, [u1, u2], .cons r1 (.cons r2 .nil), hTup⟩
    refine ⟨.ref T, _, I1, rfl, ⟨T, _, _, rfl, I.hok.fresh hT, rfl, fun l hl => by rw [I.tuple_inj hl hx]; exact hxi, fun l hl => by rw [I.tuple_inj hl hy]; exact hyi⟩, ⟨g1, g2, g3, g4, g5⟩, fun c hc' => ?_⟩
    have lt : c < s.heap.objs.size := by
      have e' : c = z ∨ c = TI ∨ c = TO ∨ c = i1 ∨ c = i2 := by simpa using hc'
      obtain ⟨_, _, g3'⟩ := h3
      obtain ⟨_, w4, _⟩ := h4
      obtain ⟨_, w5, _⟩ := h5
      rcases e' with q | q | q | q | q <;> rw [q]
      · exact Heap.lt_size h1
      · exact Heap.lt_size h2
      · exact Heap.lt_size g3'
      · exact Heap.lt_size w4
      · exact Heap.lt_size w5
    rw [upd_ne (Nat.ne_of_lt (Nat.lt_of_lt_of_le lt hT))]
    exact (hf c hc').1
  done := by
    intro X hP hw hK hc i pins s σ H E I hf st hg
    subst hP hw hK
    obtain ⟨h1, h2, h3, h4, h5⟩ := st
    obtain ⟨xs, ys, hx, hy, hend⟩ := hg
    obtain ⟨its, rv, p, _⟩ := I.tuple hx
    obtain ⟨its2, rv2, p2, _⟩ := I.tuple hy
    have dif : ∀ {t u : Addr} {j : Nat} {js : Array Value}, s.heap.IsTupleIter t u j → ∀ {c : Addr}, s.heap.IsTuple c js → c ≠ t := fun {t u j js} hi {c} ht e => by
      obtain ⟨o, ho, hcls, _⟩ := ht
      obtain ⟨o2, ho2, hc2, _⟩ := hi
      rw [e, ho2] at ho
      cases ho
      rw [hc2] at hcls
      exact absurd hcls (by decide)
    have W := GoesN.zip2 (prog := X.prog) (w := X.w) (A := X.A) (elts := elts) (x1 := kk) (pos := tpos) S (Draws.tuple (prog := X.prog) (w := X.w) (A := X.A.in1) (I.ok.hd hc) i1 a (dif h4 p) its.toArray) (Draws.tuple (prog := X.prog) (w := X.w) (A := X.A.in1) (I.ok.hd hc) i2 b (dif h5 p2) its2.toArray)
    have n1 : min its.toArray.size its2.toArray.size = i := by
      rw [List.size_toArray, List.size_toArray, ← rv.length, ← rv2.length]
      exact hend
    rw [n1] at W
    refine wpAny_mono (W.stops s (fun s1 => Inv X pins σ H s1) E ⟨h1, h2, h3, ⟨h4, p⟩, h5, p2⟩ fun h' tk hk htk => I.turnedL (t' := tk) (ch := [z, TI, TO, i1, i2]) (fun c o hb q => hk c o (fun m => hb ?_) q) hf) (fun r s1 hr => hr) fun _ _ q => q
    have e' : c = z ∨ c = TO ∨ c = i1 ∨ c = i2 := by simpa using m
    rcases e' with q | q | q | q <;> simp [q]
  self := fun A i s Q E st h => wpAny_pyIter_zip st.1 h
theorem walk_zipT {K : PySem.W.Frag} {a b : Addr} {xs ys : List V} : Walk (ItzT K a b) (min xs.length ys.length) (fun H => SqT K H a xs ∧ SqT K H b ys) (YPair (fun i => xs[i]?) (fun i => ys[i]?)) where
  goes := fun i H hi h => ⟨xs, ys, h.1, h.2, by omega, by omega⟩
  stops := fun H h => ⟨xs, ys, h.1, h.2, rfl⟩
  yields := fun i H v H' hi h y => by
    obtain ⟨T, x, y, rfl, hT, rfl, h1, h2⟩ := y
    exact ⟨T, x, y, rfl, hT, rfl, h1 xs h.1, h2 ys h.2⟩
/-- zip(t, u) -/
def iZipT (K : PySem.W.Frag) (ta : TA) : TI := fun σ H R => ta σ H fun vs H1 => ∃ a b xs ys, vs = [.ref a, .ref b] ∧ SqT K H1 a xs ∧ SqT K H1 b ys ∧ R (ItzT K a b) H1
theorem pi_zipT {X : Cx} {e e2 : Expr} {ta : TA} {p pos tpos : Pos} {elts : List Expr} {kk : Nat} (hm : X.mg "zip" = none) (ha : PA X [e, e2] ta) (hg : Gl X "zip" := by rfl)
    (hs : starEach [e, e2] X.env = (false, eval e X.env) :: starEach [e2] X.env := by rfl) (hpl : (backTo pos (starEach [e2] X.env)).any (·.1) = false := by rfl) :
    PI X (.Tuple elts kk tpos) (.Call (.Name "zip" p) [e, e2] [] pos) (iZipT X.K ta) := by
  refine ⟨fun pins s σ H R I h => Call_ (ld_blt I hg hm PyProof.Rows.boot_zip (PyProof.Rows.callWith_type1 (thn (ha.run pos pins s σ H _ I h) fun us s1 ⟨vs, H1, I1, r1, q1⟩ => ?_) hs hpl))⟩
  obtain ⟨a, b, xs, ys, ex, hx, hy, q⟩ := q1
  subst ex
  cases r1 with
  | cons r rr =>
  cases rr with
  | cons r' rr =>
  cases rr
  cases r
  cases r'
  obtain ⟨its, rv, p1, _⟩ := I1.tuple hx
  obtain ⟨its2, rv2, p2, _⟩ := I1.tuple hy
  have lt : ∀ {c : Addr} {js : Array Value}, IsTup s1.heap c js → c < s1.heap.objs.size := fun h => by obtain ⟨_, h, _⟩ := h; exact Heap.lt_size h
  refine zip_begins2 (begins_tuple a its.toArray) (begins_tuple b its2.toArray) p1 p2 fun h' hz hTI hTO h1 h2 hsz hk => wpAny_pyIter_zip hz ?_
  refine ⟨s1.heap.objs.size + 4, [s1.heap.objs.size + 4, s1.heap.objs.size + 2, s1.heap.objs.size + 3, s1.heap.objs.size, s1.heap.objs.size + 1], _, _, H1, rfl, I1.kept (t' := s1.toks) hk, turn_zipT (zip_sep2 (fp1 := [a]) (fp2 := [b]) (fun c m => by rw [List.mem_singleton.mp m]; exact lt p1) (fun c m => by rw [List.mem_singleton.mp m]; exact lt p2)), ⟨hz, hTI, ⟨_, _, hTO⟩, ⟨_, h1, rfl, rfl⟩, ⟨_, h2, rfl, rfl⟩⟩, fun c m => ?_, q⟩
  have le : s1.heap.objs.size ≤ c := by
    have e' : c = s1.heap.objs.size + 4 ∨ c = s1.heap.objs.size + 2 ∨ c = s1.heap.objs.size + 3 ∨ c = s1.heap.objs.size ∨ c = s1.heap.objs.size + 1 := by simpa using m
    rcases e' with z | z | z | z | z <;> rw [z]
    · exact Nat.le_add_right _ _
    · exact Nat.le_add_right _ _
    · exact Nat.le_add_right _ _
    · exact Nat.le_refl _
    · exact Nat.le_add_right _ _
  exact I1.fpOk le (I1.hok.fresh le)
end L2

set_option maxRecDepth 100000
set_option maxHeartbeats 4000000
/-! # zip(a, l): a an own instance whose __iter__ says: return iter(self.field), the field a tuple; l a list -/
namespace L2
open PySem PySem.Spec PyProof.Rows PySem.W
section
variable {X : Cx} {pins : List (Addr × Obj)} {σ : St} {H : Hp} {s : Shared} {a C dx f t : Addr} {fs : List (Str × V)} {fld : Str} {xs : List V} {k : Nat}
theorem own_iterA {A : Around} {E : Value → Shared → Prop} (O : OwnIt X.K X.mg C f fld) (hr : Room k A) (I : Inv X pins σ H s) (ha : H a = some (.ins C dx fs)) (hv : fs.lookup fld = some (.ref t)) (hT : SqT X.K H t xs) {Q : Value → Shared → Prop}
    (hq : ∀ h' tk it, (∀ b o, s.heap.get? b = some o → h'.get? b = some o) → s.heap.objs.size ≤ it → h'.get? it = some (tupIt t) → Q (.ref it) { s with heap := h', toks := tk }) :
    wpAny (model X.prog X.w) A (pyIter (.ref a)) Q E s := by
  obtain ⟨qual, params, scope, p1, p2, p3, p4, p5, ⟨oc, od, kV, doc, pm, an, cdv, ct, osl, hfn, hcd⟩, sc1, sc2, sc3, sc4, sc5, sc6, hb, hbase⟩ := O.txt
  obtain ⟨mA, J0, rel, _⟩ := ins_get I.hok ha
  obtain ⟨oda, J, _⟩ := J0.look
  obtain ⟨m, hF⟩ := I.fr
  obtain ⟨its, rv, hTup, _⟩ := I.tuple hT
  obtain ⟨u, hu, ru⟩ := RelO.some_of (v := V.ref t) (o := mA fld) (by rw [← hv]; exact rel fld)
  cases ru
  have hG : s.heap.Ns mainGlobals X.mg := I.mod.glob.keeps I.bk
  obtain ⟨mb, hB, hbb⟩ := I.mod.blt
  have X0 := I.kIn
  have hlim := I.nolimit
  obtain ⟨hp, g, dr, tk, os⟩ := s
  refine owit_iter hF I.ok.mod.kin J O.at_ O.fn (wpAny_call ?_)
  refine ks_codeAny_call_defAt (binds := [("self", .ref a)]) (by have := hr.dp; omega) (X0 _ _ hfn) rfl hlim (codeRec_of X0 hcd) rfl (hb _ _ _ rfl rfl rfl) sc3 (fun y hy => ?_) (fun h₀ hns hk₀ => ?_) sc5 sc6 sc4
  · have e : y = (("self" : Str), Value.ref a) := by simpa using hy
    rw [e]
    exact sc1
  · have X1 : X.K.In h₀ := X0.keeps hk₀
    have J1 : ObjM h₀ a dx C mA := ⟨hk₀ _ _ J0.obj, J0.ns.at fun o q => hk₀ _ o q, J0.ne⟩
    refine wpAt_of_wpAny (wpAny_execs_cons (wpAny_Return_some ?_))
    refine wpAny_Call_Name_kw (Calls.Name_function_global sc4 sc2 (Calls.loadGlobal_builtin (hG.keeps hk₀) O.free ((hB.keeps I.bk).keeps hk₀) ((hbb _ (by decide)).trans (by decide +kernel : bootBuiltins "iter" = some (.builtin "iter"))) ?_) (by decide))
    refine PyProof.Rows.callWith_builtin1 (spliced_more (attr_of (hbase _ rfl) (PySem.ESX.ldL (v := .ref a) hns (by simp [List.lookup]) ?_ sc4 sc1))) (by rfl) (by rfl)
    refine get_map X1 J1 (O.cls.get _) O.cls.hd O.noA hu rfl (spliced_none ?_)
    refine call_iter_tup (show h₀.IsTuple t its.toArray from let ⟨o, h1, h2⟩ := hTup; ⟨o, hk₀ _ o h1, h2⟩) ?_
    have hT1 : (⟨h₀.push (tupIt t), g, dr, tk + 1 + 1, os⟩ : Shared).TypeIs (.ref h₀.objs.size) "tuple_iterator" := ⟨_, Heap.get?_push_at rfl rfl, rfl⟩
    refine wpAny_specialOf (hT1) F.slot_tuple_iterator_next.lookup ?_
    exact hq _ _ _ (fun b o q => Heap.get?_push_of_some _ (hk₀ b o q)) (by
      have := hns.lt
      exact Nat.le_of_lt this) (Heap.get?_push_at rfl rfl)
end
/-! ## the zip's making over any two iterators -/
abbrev zqT (h : Heap) (i1 i2 : Addr) : Heap := h.push { cls := .type "tuple", data := .seq #[.ref i1, .ref i2] }
abbrev zqO (h : Heap) (i1 i2 : Addr) : Heap := (zqT h i1 i2).push { cls := .type "tuple", data := .seq #[.none, .none] }
abbrev zqZ (h : Heap) (i1 i2 : Addr) : Heap := (zqO h i1 i2).push { cls := .type "zip", data := .fields #[.none, .bool false, .bool false, .ref h.objs.size, .ref (zqT h i1 i2).objs.size] }
/-- how iter(v) goes here, whatever is wanted behind it: the iterator's place and the memory behind it -/
def IterTo (prog : Program) (w : World) (A : Around) (v : Value) (s : Shared) (G : Addr → Shared → Prop) : Prop := ∀ (Q E : Value → Shared → Prop), (∀ it s', G it s' → Q (.ref it) s') → wpAny (model prog w) A (pyIter v) Q E s
theorem meets_zip_q {prog : Program} {w : World} {v1 v2 : Value} :
    MeetsIn prog w (Builtin.«zip.__new__» ⟨[.type "zip", v1, v2], []⟩) (fun A R s => IterTo prog w A.in1 v1 s fun i1 s1 => IterTo prog w A.in1 v2 s1 fun i2 s2 => R (.ok (.ret (.ref (zqO s2.heap i1 i2).objs.size))) { s2 with heap := zqZ s2.heap i1 i2 }) :=
  .of_wp fun A R s h => by
    have hsub := sub_zip
    have q1 : ∀ {E : Value → Shared → Prop} {Q : Value → Shared → Prop}, (∀ it s1, (IterTo prog w A.in1 v2 s1 fun i2 s2 => R (.ok (.ret (.ref (zqO s2.heap it i2).objs.size))) { s2 with heap := zqZ s2.heap it i2 }) → Q (.ref it) s1) → wpAny (model prog w) A.in1 (pyIter v1) Q E s := fun q => h _ _ q
    have q2 : ∀ {E : Value → Shared → Prop} {Q : Value → Shared → Prop} {it : Addr} {s1 : Shared}, (IterTo prog w A.in1 v2 s1 fun i2 s2 => R (.ok (.ret (.ref (zqO s2.heap it i2).objs.size))) { s2 with heap := zqZ s2.heap it i2 }) → (∀ i2 s2, R (.ok (.ret (.ref (zqO s2.heap it i2).objs.size))) { s2 with heap := zqZ s2.heap it i2 } → Q (.ref i2) s2) → wpAny (model prog w) A.in1 (pyIter v2) Q E s1 := fun g q => g _ _ q
    wp_walk using q1
    intro it s1 g
    have q3 : ∀ {E : Value → Shared → Prop} {Q : Value → Shared → Prop}, (∀ i2 s2, R (.ok (.ret (.ref (zqO s2.heap it i2).objs.size))) { s2 with heap := zqZ s2.heap it i2 } → Q (.ref i2) s2) → wpAny (model prog w) A.in1 (pyIter v2) Q E s1 := fun q => q2 g q
    wp_walk using q3
    intro i2 s2 g2
    obtain ⟨hp, gg, d, tk, os⟩ := s2
    wp_walk
    exact ⟨_, rfl, g2⟩
/-- zip(v, u): what is left when both have begun -/
theorem zip_q {prog : Program} {w : World} {A : Around} {E : Value → Shared → Prop} {s : Shared} {v1 v2 : Value} {Q : Value → Shared → Prop}
    (h : IterTo prog w A.in1.in1 v1 s fun i1 s1 => IterTo prog w A.in1.in1 v2 s1 fun i2 s2 => ∀ h', IsZip h' (s2.heap.objs.size + 2) s2.heap.objs.size (s2.heap.objs.size + 1) .none → IsTupOf2 h' s2.heap.objs.size (.ref i1) (.ref i2) →
      IsTupOf2 h' (s2.heap.objs.size + 1) .none .none → h'.objs.size = s2.heap.objs.size + 3 → (∀ c o, s2.heap.get? c = some o → h'.get? c = some o) → Q (.ref (s2.heap.objs.size + 2)) { s2 with heap := h' }) :
    wpAny (model prog w) A (call (.type "zip") [v1, v2]) Q E s := by
  refine callType_newIn F.called_zip (by decide) (F.typeCall_zip_2 _ _) (F.newCall_zip_2 _ _) (fun obj => F.args_object_init_3 obj _ _) F.entry_zip_new meets_zip_q ?_
  refine fun Q1 E1 k1 => h Q1 E1 fun i1 s1 h1 => k1 i1 s1 fun Q2 E2 k2 => h1 Q2 E2 fun i2 s2 h2 => k2 i2 s2 ?_
  have zT : (zqT s2.heap i1 i2).objs.size = s2.heap.objs.size + 1 := by rw [Heap.size_push]
  have zO : (zqO s2.heap i1 i2).objs.size = s2.heap.objs.size + 2 := by rw [Heap.size_push, zT]
  have zZ : (zqZ s2.heap i1 i2).objs.size = s2.heap.objs.size + 3 := by rw [Heap.size_push, zO]
  have gZ : (zqZ s2.heap i1 i2).get? (zqO s2.heap i1 i2).objs.size = some { cls := .type "zip", data := .fields #[.none, .bool false, .bool false, .ref s2.heap.objs.size, .ref (zqT s2.heap i1 i2).objs.size] } := Heap.get?_push_size _ rfl
  have gO : (zqZ s2.heap i1 i2).get? (zqT s2.heap i1 i2).objs.size = some { cls := .type "tuple", data := .seq #[.none, .none] } := Heap.get?_push_of_some _ (Heap.get?_push_size _ rfl)
  have gT : (zqZ s2.heap i1 i2).get? s2.heap.objs.size = some { cls := .type "tuple", data := .seq #[.ref i1, .ref i2] } := Heap.get?_push_of_some _ (Heap.get?_push_of_some _ (Heap.get?_push_size _ rfl))
  rw [zO, zT] at gZ
  rw [zT] at gO
  show _ ∧ _
  rw [zO]
  exact ⟨⟨_, gZ, rfl⟩, h2 _ gZ gT gO zZ fun c o e => Heap.get?_push_of_some _ (Heap.get?_push_of_some _ (Heap.get?_push_of_some _ e))⟩
def ItzO (K : PySem.W.Frag) (a b : Addr) : It :=
  ⟨fun i H => ∃ xs ys : List V, SqT K H a xs ∧ SqL K H b ys ∧ i < xs.length ∧ i < ys.length,
   fun i H v H' => ∃ T x y, v = .ref T ∧ H T = none ∧ H' = upd H T (.tup [x, y]) ∧ (∀ xs, SqT K H a xs → xs[i]? = some x) ∧ ∀ ys, SqL K H b ys → ys[i]? = some y,
   fun i H => ∃ xs ys : List V, SqT K H a xs ∧ SqL K H b ys ∧ min xs.length ys.length = i⟩
/-- what the five cells of the walk look like at turn i -/
def ZipAtO (z TI TO i1 i2 a b : Addr) (i : Nat) (h : Heap) : Prop := IsZip h z TI TO .none ∧ IsTupOf2 h TI (.ref i1) (.ref i2) ∧ (∃ a1 a2, IsTupOf2 h TO a1 a2) ∧ h.IsTupleIter i1 a i ∧ h.IsListIter i2 b i
theorem turn_zipO {P : Program} {w : World} {K : PySem.W.Frag} {elts : List Expr} {kk : Nat} {tpos : Pos} {a b z TI TO i1 i2 : Addr} (S : ZipSep2 z TI TO i1 i2 [i1, a] [i2, b]) :
    Turn P w K (.Tuple elts kk tpos) (ItzO K a b) [z, TI, TO, i1, i2] z (ZipAtO z TI TO i1 i2 a b) where
  mem := by simp
  obj := fun i h st c hc => by
    obtain ⟨h1, h2, ⟨a1, a2, h3⟩, ⟨o4, h4, _, d4⟩, ⟨o5, h5, _, d5⟩⟩ := st
    have e' : c = z ∨ c = TI ∨ c = TO ∨ c = i1 ∨ c = i2 := by simpa using hc
    rcases e' with q | q | q | q | q <;> subst q
    · exact ⟨_, h1, fun v q => nomatch q⟩
    · exact ⟨_, h2, fun v q => nomatch q⟩
    · exact ⟨_, h3, fun v q => nomatch q⟩
    · exact ⟨o4, h4, fun v q => by rw [d4] at q; cases q⟩
    · exact ⟨o5, h5, fun v q => by rw [d5] at q; cases q⟩
  keep := fun i h h' st k => by
    obtain ⟨h1, h2, ⟨a1, a2, h3⟩, h4, h5⟩ := st
    exact ⟨k z (by simp) _ h1, k TI (by simp) _ h2, ⟨a1, a2, k TO (by simp) _ h3⟩, h4.at fun o q => k i1 (by simp) o q, h5.at fun o q => k i2 (by simp) o q⟩
  item := by
    intro X hP hw hK hc i pins s σ H E I hf st hg
    subst hP hw hK
    obtain ⟨h1, h2, h3, h4, h5⟩ := st
    obtain ⟨xs, ys, hx, hy, lx, ly⟩ := hg
    obtain ⟨its, rv, p, _⟩ := I.tuple hx
    obtain ⟨its2, rv2, p2', _⟩ := I.list hy
    have p2 : s.heap.IsList b its2.toArray := p2'.isList
    have da : a ≠ i1 := fun e => by
      obtain ⟨o, ho, hcls, _⟩ := p
      obtain ⟨o2, ho2, hc2, _⟩ := h4
      rw [e, ho2] at ho
      cases ho
      rw [hc2] at hcls
      exact absurd hcls (by decide)
    have db : b ≠ i2 := fun e => by
      obtain ⟨o, ho, hcls, _⟩ := p2
      obtain ⟨o2, ho2, hc2, _⟩ := h5
      rw [e, ho2] at ho
      cases ho
      rw [hc2] at hcls
      exact absurd hcls (by decide)
    have W := GoesN.zip2 (prog := X.prog) (w := X.w) (A := X.A) (elts := elts) (x1 := kk) (pos := tpos) S (Draws.tuple (prog := X.prog) (w := X.w) (A := X.A.in1) (I.ok.hd hc) i1 a da its.toArray) (Draws.list (prog := X.prog) (w := X.w) (A := X.A.in1) (I.ok.hd hc) i2 b db its2.toArray)
    have n1 : i < min its.toArray.size its2.toArray.size := by
      rw [List.size_toArray, List.size_toArray, ← rv.length, ← rv2.length]
      omega
    refine wpAny_mono (W.goes i s _ E n1 ⟨h1, h2, h3, ⟨h4, p⟩, h5, p2⟩ fun v h' tk hY st' hk htk => ?_) (fun r s1 hr => hr) fun _ _ q => q
    obtain ⟨T, u1, u2, rfl, hT, e1, e2, hTup⟩ := hY
    obtain ⟨g1, g2, g3, ⟨g4, _⟩, g5, _⟩ := st'
    have hxi : xs[i]? = some xs[i] := List.getElem?_eq_getElem lx
    have hyi : ys[i]? = some ys[i] := List.getElem?_eq_getElem ly
    obtain ⟨v1, hv1, r1⟩ := rv.get hxi
    obtain ⟨v2, hv2, r2⟩ := rv2.get hyi
    have q1 : u1 = v1 := by
      have : its[i]? = some u1 := by simpa using e1
      rw [hv1] at this; exact (Option.some.inj this).symm
    have q2 : u2 = v2 := by
      have : its2[i]? = some u2 := by simpa using e2
      rw [hv2] at this; exact (Option.some.inj this).symm
    subst q1 q2
    have I1 : Inv X pins σ (upd H T (.tup [xs[i], ys[i]])) { s with heap := h', toks := tk } :=
      I.turnedNew (ch := [z, TI, TO, i1, i2]) (fun c o hb q => hk c o (fun m => hb (by
        have e' : c = z ∨ c = TO ∨ c = i1 ∨ c = i2 := by simpa using m
        rcases e' with q | q | q | q <;> simp [q])) q) hf hT ⟨by show 2 ≤ sizeLine; decide, [u1, u2], .cons r1 (.cons r2 .nil), hTup⟩
    refine ⟨.ref T, _, I1, rfl, ⟨T, _, _, rfl, I.hok.fresh hT, rfl, fun l hl => by rw [I.tuple_inj hl hx]; exact hxi, fun l hl => by rw [I.list_inj hl hy]; exact hyi⟩, ⟨g1, g2, g3, g4, g5⟩, fun c hc' => ?_⟩
    have lt : c < s.heap.objs.size := by
      have e' : c = z ∨ c = TI ∨ c = TO ∨ c = i1 ∨ c = i2 := by simpa using hc'
      obtain ⟨_, _, g3'⟩ := h3
      obtain ⟨_, w4, _⟩ := h4
      obtain ⟨_, w5, _⟩ := h5
      rcases e' with q | q | q | q | q <;> rw [q]
      · exact Heap.lt_size h1
      · exact Heap.lt_size h2
      · exact Heap.lt_size g3'
      · exact Heap.lt_size w4
      · exact Heap.lt_size w5
    rw [upd_ne (Nat.ne_of_lt (Nat.lt_of_lt_of_le lt hT))]
    exact (hf c hc').1
  done := by
    intro X hP hw hK hc i pins s σ H E I hf st hg
    subst hP hw hK
    obtain ⟨h1, h2, h3, h4, h5⟩ := st
    obtain ⟨xs, ys, hx, hy, hend⟩ := hg
    obtain ⟨its, rv, p, _⟩ := I.tuple hx
    obtain ⟨its2, rv2, p2', _⟩ := I.list hy
    have p2 : s.heap.IsList b its2.toArray := p2'.isList
    have da : a ≠ i1 := fun e => by
      obtain ⟨o, ho, hcls, _⟩ := p
      obtain ⟨o2, ho2, hc2, _⟩ := h4
      rw [e, ho2] at ho
      cases ho
      rw [hc2] at hcls
      exact absurd hcls (by decide)
    have db : b ≠ i2 := fun e => by
      obtain ⟨o, ho, hcls, _⟩ := p2
      obtain ⟨o2, ho2, hc2, _⟩ := h5
      rw [e, ho2] at ho
      cases ho
      rw [hc2] at hcls
      exact absurd hcls (by decide)
    have W := GoesN.zip2 (prog := X.prog) (w := X.w) (A := X.A) (elts := elts) (x1 := kk) (pos := tpos) S (Draws.tuple (prog := X.prog) (w := X.w) (A := X.A.in1) (I.ok.hd hc) i1 a da its.toArray) (Draws.list (prog := X.prog) (w := X.w) (A := X.A.in1) (I.ok.hd hc) i2 b db its2.toArray)
    have n1 : min its.toArray.size its2.toArray.size = i := by
      rw [List.size_toArray, List.size_toArray, ← rv.length, ← rv2.length]
      exact hend
    rw [n1] at W
    refine wpAny_mono (W.stops s (fun s1 => Inv X pins σ H s1) E ⟨h1, h2, h3, ⟨h4, p⟩, h5, p2⟩ fun h' tk hk htk => I.turnedL (t' := tk) (ch := [z, TI, TO, i1, i2]) (fun c o hb q => hk c o (fun m => hb ?_) q) hf) (fun r s1 hr => hr) fun _ _ q => q
    have e' : c = z ∨ c = TO ∨ c = i1 ∨ c = i2 := by simpa using m
    rcases e' with q | q | q | q <;> simp [q]
  self := fun A i s Q E st h => wpAny_pyIter_zip st.1 h
theorem walk_zipO {K : PySem.W.Frag} {a b : Addr} {xs ys : List V} : Walk (ItzO K a b) (min xs.length ys.length) (fun H => SqT K H a xs ∧ SqL K H b ys) (YPair (fun i => xs[i]?) (fun i => ys[i]?)) where
  goes := fun i H hi h => ⟨xs, ys, h.1, h.2, by omega, by omega⟩
  stops := fun H h => ⟨xs, ys, h.1, h.2, rfl⟩
  yields := fun i H v H' hi h y => by
    obtain ⟨T, x, y, rfl, hT, rfl, h1, h2⟩ := y
    exact ⟨T, x, y, rfl, hT, rfl, h1 xs h.1, h2 ys h.2⟩
theorem sepO {N i t b : Nat} (h1 : i < N) (h2 : t < N) (h3 : b < N) (nb : i ≠ b) : ZipSep2 (N + 3) (N + 1) (N + 2) i N [i, t] [N, b] where
  TIz := show (N + 1 : Nat) ≠ N + 3 by omega
  TOz := show (N + 2 : Nat) ≠ N + 3 by omega
  TITO := show (N + 1 : Nat) ≠ N + 2 by omega
  TIi1 := show (N + 1 : Nat) ≠ i by omega
  mem1 := List.mem_cons_self ..
  zf1 := fun m => by
    have : (N + 3 : Nat) = i ∨ (N + 3 : Nat) = t := by simpa using m
    omega
  Tf1 := fun m => by
    have : (N + 2 : Nat) = i ∨ (N + 2 : Nat) = t := by simpa using m
    omega
  TIi2 := show (N + 1 : Nat) ≠ N by omega
  mem2 := List.mem_cons_self ..
  zf2 := fun m => by
    rcases List.mem_cons.mp m with m | m
    · exact absurd m (show (N + 3 : Nat) ≠ N by omega)
    · exact absurd (List.mem_singleton.mp m) (show (N + 3 : Nat) ≠ b by omega)
  Tf2 := fun m => by
    rcases List.mem_cons.mp m with m | m
    · exact absurd m (show (N + 2 : Nat) ≠ N by omega)
    · exact absurd (List.mem_singleton.mp m) (show (N + 2 : Nat) ≠ b by omega)
  sep1_2 := fun m => by
    rcases List.mem_cons.mp m with m | m
    · exact absurd m (show (i : Nat) ≠ N by omega)
    · exact nb (List.mem_singleton.mp m)
  sep2_1 := fun m => by
    rcases List.mem_cons.mp m with m | m
    · exact absurd m (show (N : Nat) ≠ i by omega)
    · exact absurd (List.mem_singleton.mp m) (show (N : Nat) ≠ t by omega)
/-- zip(o, l): o an own instance whose __iter__ walks its field fld (a tuple), l a list -/
def iZipO (K : PySem.W.Frag) (C : Addr) (fld : Str) (ta : TA) : TI := fun σ H R => ta σ H fun vs H1 => ∃ a b dx fs t xs ys, vs = [.ref a, .ref b] ∧ H1 a = some (.ins C dx fs) ∧ fs.lookup fld = some (.ref t) ∧ SqT K H1 t xs ∧ SqL K H1 b ys ∧ R (ItzO K t b) H1
theorem pi_zipO {X : Cx} {e e2 : Expr} {ta : TA} {p pos tpos : Pos} {elts : List Expr} {kk : Nat} {C f : Addr} {fld : Str} {k : Nat} (O : OwnIt X.K X.mg C f fld) (hr : Room (k + 2) X.A) (hm : X.mg "zip" = none) (ha : PA X [e, e2] ta) (hg : Gl X "zip" := by rfl)
    (hs : starEach [e, e2] X.env = (false, eval e X.env) :: starEach [e2] X.env := by rfl) (hpl : (backTo pos (starEach [e2] X.env)).any (·.1) = false := by rfl) :
    PI X (.Tuple elts kk tpos) (.Call (.Name "zip" p) [e, e2] [] pos) (iZipO X.K C fld ta) := by
  refine ⟨fun pins s σ H R I h => Call_ (ld_blt I hg hm PyProof.Rows.boot_zip (PyProof.Rows.callWith_type1 (thn (ha.run pos pins s σ H _ I h) fun us s1 ⟨vs, H1, I1, r1, q1⟩ => ?_) hs hpl))⟩
  obtain ⟨a, b, dx, fs, t, xs, ys, ex, hin, hl, hx, hy, q⟩ := q1
  subst ex
  cases r1 with
  | cons r rr =>
  cases rr with
  | cons r' rr =>
  cases rr
  cases r
  cases r'
  refine zip_q fun Q1 E1 k1 => own_iterA O hr.in1.in1 I1 hin hl hx fun h1 tk1 it1 hk1 hit1 ho1 => k1 it1 _ fun Q2 E2 k2 => ?_
  have I2 : Inv X pins σ H1 { s1 with heap := h1, toks := tk1 } := I1.kept (t' := tk1) hk1
  obtain ⟨its2, rv2, p2, _⟩ := I2.list hy
  obtain ⟨its, rv, p1, _⟩ := I2.tuple hx
  refine wpAny_pyIter_list p2.isList (k2 _ _ ?_)
  have zp : (h1.push { cls := .type "list_iterator", data := .fields #[.ref b, .int 0 0] }).objs.size = h1.objs.size + 1 := Heap.size_push ..
  dsimp only
  rw [zp]
  intro h' hz hTI hTO hsz hk
  refine wpAny_pyIter_zip hz ?_
  have hkk : ∀ c o, h1.get? c = some o → h'.get? c = some o := fun c o e => hk c o (Heap.get?_push_of_some _ e)
  have I3 : Inv X pins σ H1 { s1 with heap := h', toks := tk1 } := I2.kept (t' := tk1) hkk
  have l1 : it1 < h1.objs.size := Heap.lt_size ho1
  have lb : b < h1.objs.size := p2.lt
  have lt : t < h1.objs.size := by obtain ⟨_, h, _⟩ := p1; exact Heap.lt_size h
  have hi2 : h'.get? h1.objs.size = some { cls := .type "list_iterator", data := .fields #[.ref b, .int 0 0] } := hk _ _ (Heap.get?_push_size _ rfl)
  have nt : it1 ≠ b := fun e => by
    rw [e] at ho1
    obtain ⟨o, ho, hc, _⟩ := p2.isList
    have ho' : h1.get? b = some o := ho
    rw [ho'] at ho1
    cases ho1
    have hc' : Value.type "tuple_iterator" = Value.type "list" := hc
    exact absurd hc' (by decide)
  have S := sepO l1 lt lb nt
  refine ⟨_, [h1.objs.size + 3, h1.objs.size + 1, h1.objs.size + 2, it1, h1.objs.size], ZipAtO (h1.objs.size + 3) (h1.objs.size + 1) (h1.objs.size + 2) it1 h1.objs.size t b, _, H1, rfl, I3, turn_zipO S, ⟨hz, hTI, ⟨_, _, hTO⟩, ⟨_, hkk _ _ ho1, rfl, rfl⟩, ⟨_, hi2, rfl, rfl⟩⟩, fun c m => ?_, q⟩
  have hlt : s1.heap.objs.size ≤ h1.objs.size := Nat.le_of_lt (Nat.lt_of_le_of_lt hit1 l1)
  have le : s1.heap.objs.size ≤ c := by
    have e' : c = h1.objs.size + 3 ∨ c = h1.objs.size + 1 ∨ c = h1.objs.size + 2 ∨ c = it1 ∨ c = h1.objs.size := by simpa using m
    rcases e' with z | z | z | z | z <;> rw [z]
    · exact Nat.le_trans hlt (Nat.le_add_right _ 3)
    · exact Nat.le_trans hlt (Nat.le_add_right _ 1)
    · exact Nat.le_trans hlt (Nat.le_add_right _ 2)
    · exact hit1
    · exact hlt
  exact I1.fpOk le (I1.hok.fresh le)
end L2

set_option maxRecDepth 100000
set_option maxHeartbeats 4000000
/-! # range(n) as a value; list(range(..)) -/
namespace L2
open PySem PySem.Spec PyProof.Rows
section
variable {X : Cx}
theorem cr_range1 : CallR X (.type "range") (fun vs H Q => ∃ j, vs = [V.int j] ∧ ∀ p, H p = none → Q (.ref p) (upd H p (.rng 0 j))) := by
  intro pins s σ H vs us Q I r h
  obtain ⟨j, rfl, q⟩ := h
  obtain ⟨u, rfl, rj⟩ := vals1 r
  obtain ⟨t, rfl⟩ := rj
  refine call_range_1 ⟨.ref s.heap.objs.size, upd H s.heap.objs.size (.rng 0 j), I.laid (t' := s.toks + 1 + 1) (fun b o e => Heap.get?_push_of_some _ e) (Nat.le_refl _) ?_, rfl, q _ (I.hok.fresh (Nat.le_refl _))⟩
  exact ⟨s.toks, t, s.toks + 1, Heap.get?_push_size _ rfl⟩
/-- the whole numbers from lo on, n of them -/
def runI (lo : Int) (n : Nat) : List V := (List.range n).map fun i => V.int (lo + (i : Nat))
theorem vals_run {lo : Int} : ∀ (n : Nat) (us : List Value), us.length = n → (∀ i v, us[i]? = some v → ∃ t, v = Value.int (lo + (i : Nat)) t) → Vals (runI lo n) us := by
  intro n
  induction n with
  | zero =>
    intro us l _
    cases us with
    | nil => exact .nil
    | cons _ _ => cases l
  | succ n ih =>
    intro us l h
    have hd : us = us.take n ++ [us[n]] := by
      conv => lhs; rw [← List.take_append_drop n us]
      congr 1
      rw [List.drop_eq_getElem_cons (by omega), List.drop_of_length_le (by omega)]
    have h1 := ih (us.take n) (by rw [List.length_take]; omega) fun i v e => by
      rw [List.getElem?_take] at e
      split at e
      · exact h i v e
      · cases e
    obtain ⟨t, ht⟩ := h n us[n] (List.getElem?_eq_getElem (by omega))
    rw [hd, ht]
    unfold runI
    rw [List.range_succ, List.map_append]
    exact h1.append (.cons ⟨t, rfl⟩ .nil)
/-- list(r), r a range by ones -/
theorem call_list_rng (hc : X.calm = true := by rfl) : CallR X (.type "list") (fun xs H Q => ∃ r lo hi, xs = [V.ref r] ∧ H r = some (.rng lo hi) ∧ (-(2 ^ 62) ≤ lo ∧ lo < 2 ^ 62 ∧ -(2 ^ 62) ≤ hi ∧ hi < 2 ^ 62 ∧ hi - lo ≤ 2 ^ 20) ∧ ∀ l, H l = none → Q (.ref l) (upd H l (.lst (runI lo (hi - lo).toNat)))) := by
  intro pins s σ H xs us Q I rr h
  obtain ⟨r, lo, hi, rfl, hr, ⟨b1, b2, b3, b4, b5⟩, q⟩ := h
  obtain ⟨u, rfl, ru⟩ := vals1 rr
  cases ru
  obtain ⟨t1, t2, t3, ho⟩ := I.hok r _ hr
  refine call_list_range (n := (hi - lo).toNat) (I.ok.hd hc) ho (small_one b1 b2 b3 b4) (by rw [rangeSize_one]; split <;> omega) (by omega) fun h' tk acc' c' hk hS hI => ?_
  refine ⟨.ref s.heap.objs.size, _, I.laid (t' := tk) hk (Nat.le_refl _) (show ObjOk X.prog X.w _ h' _ (.lst (runI lo (hi - lo).toNat)) from ⟨?_, acc'.toList, c', vals_run _ _ (by rw [Array.length_toList]; exact hI.1) fun i v e => ?_, ?_⟩), rfl, q _ (I.hok.fresh (Nat.le_refl _))⟩
  · unfold runI
    rw [List.length_map, List.length_range, sizeLine_eq]
    omega
  · rw [Array.getElem?_toList] at e
    obtain ⟨t, ht⟩ := hI.2 i v e
    exact ⟨t, by rw [ht, Int.mul_one]⟩
  · rw [Array.toArray_toList]
    exact hS
end
end L2

set_option maxRecDepth 100000
set_option maxHeartbeats 4000000
/-! # Plain lemmas: members of rows of numbers; lists of people -/
namespace L2
open PySem PySem.Spec PyProof.Rows
theorem inV_ints (x : Int) (xs : List Int) : inV (.int x) (xs.map V.int) = decide (x ∈ xs) := by
  unfold inV
  rw [List.any_map]
  induction xs with
  | nil => rfl
  | cons y ys ih =>
    rw [List.any_cons, ih]
    by_cases h : y = x
    · subst h; simp [eqV]
    · have h' : ¬ x = y := fun e => h e.symm
      simp [eqV, h, h']
theorem flat_ints (xs : List Int) : (xs.map V.int).all flatV = true := List.all_eq_true.mpr fun v hv => by obtain ⟨x, _, rfl⟩ := List.mem_map.mp hv; rfl
/-- what is wrong first with a list of people: (false, entry): no person; (true, entry): named twice -/
def badP (n : Int) : List Int → List Int → Option (Bool × Int)
  | _, [] => none
  | pre, p :: ps => if 0 ≤ p ∧ p < n then (if p ∈ pre then some (true, p) else badP n (pre ++ [p]) ps) else some (false, p)
theorem badP_step {n : Int} {ps : List Int} {i : Nat} {p : Int} (h : badP n (ps.take i) (ps.drop i) = badP n [] ps) (hp : ps[i]? = some p) :
    (¬ (0 ≤ p ∧ p < n) → badP n [] ps = some (false, p)) ∧ ((0 ≤ p ∧ p < n) → p ∈ ps.take i → badP n [] ps = some (true, p)) ∧ ((0 ≤ p ∧ p < n) → p ∉ ps.take i → badP n (ps.take (i + 1)) (ps.drop (i + 1)) = badP n [] ps) := by
  obtain ⟨hi, rfl⟩ := List.getElem?_eq_some_iff.mp hp
  rw [List.drop_eq_getElem_cons hi] at h
  refine ⟨fun c => ?_, fun c m => ?_, fun c m => ?_⟩
  · rw [← h, badP, if_neg c]
  · rw [← h, badP, if_pos c, if_pos m]
  · rw [← h, badP, if_pos c, if_neg m, List.take_succ, hp]
    rfl
theorem badP_end {n : Int} {ps : List Int} (h : badP n (ps.take ps.length) (ps.drop ps.length) = badP n [] ps) : badP n [] ps = none := by
  rw [← h, List.drop_length, badP]
theorem badP_none {n : Int} : ∀ {ps pre : List Int}, badP n pre ps = none ↔ (∀ p ∈ ps, 0 ≤ p ∧ p < n) ∧ ps.Nodup ∧ ∀ p ∈ ps, p ∉ pre
  | [], pre => by simp [badP]
  | p :: ps, pre => by
    rw [badP]
    split
    · rename_i c
      split
      · rename_i m
        simp [m]
      · rename_i m
        rw [badP_none (ps := ps)]
        constructor
        · rintro ⟨h1, h2, h3⟩
          refine ⟨fun x hx => ?_, List.nodup_cons.mpr ⟨fun z => ?_, h2⟩, fun x hx => ?_⟩
          · rcases List.mem_cons.mp hx with rfl | hx
            · exact c
            · exact h1 x hx
          · exact h3 p z (by simp)
          · rcases List.mem_cons.mp hx with rfl | hx
            · exact m
            · exact fun z => h3 x hx (by simp [z])
        · rintro ⟨h1, h2, h3⟩
          refine ⟨fun x hx => h1 x (by simp [hx]), (List.nodup_cons.mp h2).2, fun x hx z => ?_⟩
          rcases List.mem_append.mp z with z | z
          · exact h3 x (by simp [hx]) z
          · rw [List.mem_singleton.mp z] at hx
            exact (List.nodup_cons.mp h2).1 hx
    · rename_i c
      constructor
      · intro z; cases z
      · rintro ⟨h1, _, _⟩
        exact absurd (h1 p (by simp)) c
theorem badP_run (n : Nat) : badP (n : Nat) [] ((List.range n).map fun i => ((i : Nat) : Int)) = none := by
  rw [badP_none]
  refine ⟨fun p hp => ?_, ?_, fun p _ z => by cases z⟩
  · obtain ⟨i, hi, rfl⟩ := List.mem_map.mp hp
    have := List.mem_range.mp hi
    omega
  · unfold List.Nodup
    rw [List.pairwise_map]
    exact List.Pairwise.imp (fun h e => h (by omega)) (List.nodup_range : (List.range n).Nodup)
/-! ## slices -/
theorem cutTo (xs : List V) (j : Nat) : cutV xs none (some ((j : Nat) : Int)) = xs.take j := by
  unfold cutV
  rw [HT.sIx_none, HT.sIx_nat, List.drop_zero, Nat.sub_zero]
  rcases Nat.le_total j xs.length with h | h
  · rw [Nat.min_eq_left h]
  · rw [Nat.min_eq_right h, List.take_of_length_le h, List.take_of_length_le (Nat.le_refl _)]
theorem cutFrom (xs : List V) (j : Nat) : cutV xs (some ((j : Nat) : Int)) none = xs.drop j := by
  unfold cutV
  rw [HT.sIx_none, HT.sIx_nat]
  rcases Nat.le_total j xs.length with h | h
  · rw [Nat.min_eq_left h, List.take_of_length_le (by rw [List.length_drop]; exact Nat.le_refl _)]
  · rw [Nat.min_eq_right h, Nat.sub_self, List.take_zero, List.drop_of_length_le h]
theorem cutEnd (xs : List V) (j : Nat) : cutV xs (some ((j : Nat) : Int)) (some ((xs.length : Nat) : Int)) = xs.drop j := by
  unfold cutV
  rw [HT.sIx_nat, HT.sIx_nat, Nat.min_self]
  rcases Nat.le_total j xs.length with h | h
  · rw [Nat.min_eq_left h, List.take_of_length_le (by rw [List.length_drop]; exact Nat.le_refl _)]
  · rw [Nat.min_eq_right h, Nat.sub_self, List.take_zero, List.drop_of_length_le h]
/-- len(x) within a comprehension -/
def rLenQ (K : PySem.W.Frag) : List V → Hp → VK → Prop := fun xs H Q => ∃ p ys, xs = [V.ref p] ∧ (SqL K H p ys ∨ SqT K H p ys) ∧ Q (.int ((ys.length : Nat) : Int)) H
/-- a block of two: what the rest asks is shown once, for every memory that the first may leave -/
theorem seqP {t u : TS} {D : Ends} {σ : L2.St} {H : Hp} (P : Hp → Prop) (h2 : ∀ H', P H' → u D σ H') (h1 : (∀ H', P H' → u D σ H') → t { D with nx := u D } σ H) : tSeq t u D σ H := h1 h2
theorem seqQ {t u : TS} {D : Ends} {σ : L2.St} {H : Hp} (P : L2.St → Hp → Prop) (h2 : ∀ σ' H', P σ' H' → u D σ' H') (h1 : (∀ σ' H', P σ' H' → u D σ' H') → t { D with nx := u D } σ H) : tSeq t u D σ H := h1 h2
/-- a drawn place of a written row -/
theorem pick {ms : List Int} {v : Int} (h0 : 0 ≤ v) (h1 : v < ms.length) : ∃ m ∈ ms, atI (ms.map V.int) v = some (.int m) := by
  obtain ⟨j, rfl⟩ : ∃ j : Nat, v = (j : Nat) := ⟨v.toNat, by omega⟩
  have hj : j < ms.length := by omega
  exact ⟨ms[j], List.getElem_mem hj, atI_nat (by rw [List.getElem?_map, List.getElem?_eq_getElem hj]; rfl)⟩
theorem atI_neg1 {α : Type} {xs : List α} {v : α} (h : xs[xs.length - 1]? = some v) : atI xs (-1) = some v := by
  obtain ⟨hi, e⟩ := List.getElem?_eq_some_iff.mp h
  have ne : xs ≠ [] := fun z => by rw [z] at hi; cases hi
  have : xs = xs.dropLast ++ [v] := by
    rw [← e, ← List.getLast_eq_getElem ne]
    exact (List.dropLast_concat_getLast ne).symm
  rw [this]
  exact atI_last _ _
/-- a loop's body -/
def forBodyL : Stmt → List Stmt
  | .For _ _ b _ _ => b
  | _ => []
end L2

set_option maxRecDepth 100000
set_option maxHeartbeats 8000000
namespace K10
open PySem PySem.Spec PyProof.Rows L2
section
variable {w : World} {K : PySem.W.Frag} {mg : Str → Option Value} {base : Heap}
abbrev xP (n : Int) : HO := .xd [("person", .int n)]
def spPerson (K : PySem.W.Frag) : Sp := fun vs H Q E => ∃ (h : Addr) (days starts : List Int) (gap n : Int), vs = [.ref h, .int n] ∧ IsH K H h days starts gap ∧ (¬ (0 ≤ n ∧ n < starts.length) → Rs (c_NoPerson K) (xP n) H E) ∧ (0 ≤ n ∧ n < starts.length → Q .non H)
theorem ok_check_person (T : Tx K mg) : Ok PG w K mg base (L2.CX PG w) 4 (a_check_person K) p_check_person (spPerson K) := by
  refine Ok.of 3 T.f_check_person sc_check_person bi_check_person (by decide) (fun vs H Q E h => ?_) (fun cdv A outer s H vs Q E hr h => ?_)
  · obtain ⟨_, _, _, _, _, rfl, _⟩ := h
    rfl
  · obtain ⟨h, days, starts, gap, n, rfl, hh, e1, q⟩ := h
    obtain ⟨dx, wp, t, h1, h2, h3, l1, l2⟩ := id hh
    refine ⟨_, pss_one (ps_if (pt_not (pt_chain op_le op_lt pe_int (pv 1) (pprop (ok_House_people T) (pv 0) T.cHouse T.wHouse_people hr pass0))) (pss_one (ps_raiseX rfl T.e_NoPerson (by decide) (by decide) hr (takes_of rfl rfl rfl rfl) rfl (pa_cons (pv 1) pa_nil))) pss_nil), ?_⟩
    refine ⟨_, rfl, _, _, rfl, rfl, _, rfl, ite2 (fun c => ?_) (fun c => ?_)⟩
    · refine ⟨_, rfl, h, dx, _, rfl, h1, h, days, starts, gap, rfl, hh, _, _, rfl, rfl, _, rfl, ite2 (fun d => ?_) (fun d => ?_)⟩
      · exact ⟨_, rfl, rfl, fun z hz => (e1 (fun y => by simp [y.2] at d)).now z hz⟩
      · exact q ⟨of_decide_eq_true c, by simpa using d⟩
    · refine ⟨_, rfl, iteT ?_⟩
      exact ⟨_, rfl, rfl, fun z hz => (e1 (fun y => c (decide_eq_true y.1))).now z hz⟩
end
end K10

set_option maxRecDepth 100000
set_option maxHeartbeats 4000000
/-! # x in a, a an own instance with __contains__ -/
namespace L2
open PySem PySem.Spec PyProof.Rows PySem.W
theorem contains_fn {M : Model} {A : Around} {E : Value → Shared → Prop} {s : Shared} {K : Frag} {ox : Obj} {od : Option Obj} {a C f : Addr} {x : Value} {Q : Bool → Shared → Prop} (X : K.In s.heap) (I : InstAt s.heap a ox C od)
    (hs : findIn K (.ref C) "__contains__" = some (some (.ref f))) (hf : typeIn K (.ref f) = some (.type "function")) (h : wpAny M A (call (.ref f) [.ref a, x]) (fun v s' => wpAny M A (truthy v) Q E s') E s) :
    wpAny M A (contains (.ref a) x) Q E s := by
  unfold contains
  refine wpAny_holding ?_
  refine wpAny_bind (wpAny_bind (I.type.here ((looks_findIn X hs).here ?_)))
  show wpAny M A (if (some (Value.ref f) == some Value.none) = true then _ else _) Q E s
  rw [if_neg (show ¬ ((some (Value.ref f) == some Value.none) = true) from Bool.false_ne_true)]
  refine wpAny_bind ?_
  unfold callSpecialUnlessNone?
  refine wpAny_bind (wpAny_bind (I.type.here ((looks_findIn X hs).here ?_)))
  refine wpAny_holding (wpAny_bind ((bind_fn X _ hf).here ?_))
  show wpAny M A (if (Value.ref f == Value.none) = true then _ else _) _ E s
  rw [if_neg (show ¬ ((Value.ref f == Value.none) = true) from Bool.false_ne_true)]
  exact wpAny_bind (wpAny_mono h (fun v s' q => wpAny_pure q) fun _ _ z => z)
section
variable {X : Cx} {CX : CXT} {C f : Addr} {ps : List Str} {sp : Sp} {E : XK} {k : Nat}
def rOwnIn (C : Addr) (sp : Sp) (E : XK) : R2 := fun x y H Q => ∃ a dx fs, y = .ref a ∧ H a = some (.ins C dx fs) ∧ sp [.ref a, x] H (fun v H' => ∃ b, v = .bl b ∧ Q (.bl b) H') E
theorem op_in_own (O : Ok X.prog X.w X.K X.mg X.base CX k f ps sp) (W : findIn X.K (.ref C) "__contains__" = some (some (.ref f)) ∧ isFn X.K (.ref f) = true) (hr : Room k X.A) (hx : Passes CX X E) : OpR X (compareOp .In) (rOwnIn C sp E) := by
  obtain ⟨fd, F, hb, _⟩ := O.ex
  intro pins s σ H x y v u Q I rx ry h
  obtain ⟨a, dx, fs, rfl, ha, hsp⟩ := h
  cases ry
  obtain ⟨od, J⟩ := inst_of I.hok ha
  show wpAny _ _ (do return Value.bool (← contains (Value.ref a) v)) _ _ s
  refine wpAny_bind (contains_fn I.kIn J W.1 (beq_iff_eq.mp W.2) (wpAny_mono (run_fn F hr hb .nil hx I (us := [.ref a, v]) (vs := [.ref a, x]) (.cons rfl (.cons rx .nil)) hsp) (fun r s' q => ?_) fun _ _ z => z))
  obtain ⟨z, H', I', rz, b, rfl, q⟩ := q
  obtain rfl : r = Value.bool b := rz
  exact wpAny_truthy_bool (wpAny_pure ⟨.bl b, H', I', rfl, q⟩)
end
end L2

set_option maxRecDepth 100000
set_option maxHeartbeats 8000000
namespace K10
open PySem PySem.Spec PyProof.Rows L2
/-- the first fault of ends: (none, e): no night; (some a, e): e too near behind a -/
def faultOf (gap nights : Int) : Option Int → List Int → Option (Option Int × Int)
  | _, [] => none
  | none, e :: es => if 1 ≤ e ∧ e ≤ nights then faultOf gap nights (some e) es else some (none, e)
  | some a, e :: es => if 1 ≤ e ∧ e ≤ nights then (if e - a ≤ gap then some (some a, e) else faultOf gap nights (some e) es) else some (none, e)
/-- the end before place i -/
def pre (es : List Int) (i : Nat) : Option Int := if i = 0 then none else es[i - 1]?
abbrev tell (f : Option Int × Int) : List V := match f with
  | (none, e) => [.str "end", .int e]
  | (some a, e) => [.str "near", .int a, .int e]
theorem fault_step {gap n : Int} {es : List Int} {i : Nat} {e : Int} (h : faultOf gap n (pre es i) (es.drop i) = faultOf gap n none es) (he : es[i]? = some e) :
    (¬ (1 ≤ e ∧ e ≤ n) → faultOf gap n none es = some (none, e)) ∧ ((1 ≤ e ∧ e ≤ n) → i = 0 → faultOf gap n (pre es (i + 1)) (es.drop (i + 1)) = faultOf gap n none es) ∧
    ((1 ≤ e ∧ e ≤ n) → ∀ j a, i = j + 1 → es[j]? = some a → (e - a ≤ gap → faultOf gap n none es = some (some a, e)) ∧ (¬ e - a ≤ gap → faultOf gap n (pre es (i + 1)) (es.drop (i + 1)) = faultOf gap n none es)) := by
  obtain ⟨hi, rfl⟩ := List.getElem?_eq_some_iff.mp he
  rw [List.drop_eq_getElem_cons hi] at h
  have hp : pre es (i + 1) = some es[i] := by rw [pre, if_neg (by omega), Nat.add_sub_cancel]; exact he
  refine ⟨fun c => ?_, fun c z => ?_, fun c j a z ha => ⟨fun d => ?_, fun d => ?_⟩⟩
  · rw [← h]
    cases pre es i with
    | none => rw [faultOf, if_neg c]
    | some a => rw [faultOf, if_neg c]
  · rw [← h, hp]
    subst z
    show _ = faultOf gap n none _
    rw [faultOf, if_pos c]
  · have hq : pre es i = some a := by rw [pre, if_neg (by omega), z, Nat.add_sub_cancel]; exact ha
    rw [← h, hq, faultOf, if_pos c, if_pos d]
  · have hq : pre es i = some a := by rw [pre, if_neg (by omega), z, Nat.add_sub_cancel]; exact ha
    rw [← h, hq, faultOf, if_pos c, hp, if_neg d]
theorem fault_end {gap n : Int} {es : List Int} (h : faultOf gap n (pre es es.length) (es.drop es.length) = faultOf gap n none es) : faultOf gap n none es = none := by
  rw [← h, List.drop_length]
  cases pre es es.length <;> rfl
theorem fault_in {gap n : Int} : ∀ {es : List Int} {o : Option Int}, faultOf gap n o es = none → ∀ e ∈ es, 1 ≤ e ∧ e ≤ n
  | [], _, _, e, he => by cases he
  | x :: es, none, h, e, he => by
    rw [faultOf] at h
    split at h
    · rename_i c
      rcases List.mem_cons.mp he with rfl | he
      · exact c
      · exact fault_in h e he
    · cases h
  | x :: es, some a, h, e, he => by
    rw [faultOf] at h
    split at h
    · rename_i c
      split at h
      · cases h
      · rcases List.mem_cons.mp he with rfl | he
        · exact c
        · exact fault_in h e he
    · cases h
theorem fault_few {gap n : Int} (g0 : 0 ≤ gap) : ∀ {es : List Int} {a : Int}, a ≤ n → faultOf gap n (some a) es = none → a + (es.length : Int) * (gap + 1) ≤ n
  | [], a, ha, _ => by simpa using ha
  | x :: es, a, ha, h => by
    rw [faultOf] at h
    by_cases c : 1 ≤ x ∧ x ≤ n
    · rw [if_pos c] at h
      split at h
      · cases h
      · rename_i d
        have := fault_few g0 c.2 h
        have e : (((x :: es).length : Nat) : Int) * (gap + 1) = (es.length : Int) * (gap + 1) + (gap + 1) := by
          rw [List.length_cons, Int.natCast_add, Int.add_mul]; omega
        omega
    · rw [if_neg c] at h; cases h
/-- as many as stretches can follow one another -/
def most (gap n : Int) : Int := (n + gap) / (gap + 1)
theorem fault_most {gap n : Int} (g0 : 0 ≤ gap) (n0 : 0 ≤ n) {es : List Int} (h : faultOf gap n none es = none) : (es.length : Int) ≤ most gap n := by
  have key : (es.length : Int) * (gap + 1) ≤ n + gap := by
    cases es with
    | nil => simp; omega
    | cons x es =>
      have hx := fault_in h x (by simp)
      rw [faultOf, if_pos hx] at h
      have := fault_few g0 hx.2 h
      have e : (((x :: es).length : Nat) : Int) * (gap + 1) = (es.length : Int) * (gap + 1) + (gap + 1) := by
        rw [List.length_cons, Int.natCast_add, Int.add_mul]; omega
      omega
  exact (Int.le_ediv_iff_mul_le (by omega)).mpr key
section
variable {w : World} {K : PySem.W.Frag} {mg : Str → Option Value} {base : Heap}
/-- at p a Cover of es -/
def IsC (K : PySem.W.Frag) (H : Hp) (p : Addr) (es : List Int) : Prop := ∃ dx t, H p = some (.ins (c_Cover K) dx [("ends", .ref t)]) ∧ SqT K H t (es.map V.int)
theorem IsC.same {H H' : Hp} {p : Addr} {es : List Int} (h : IsC K H p es) (s : Same H H') : IsC K H' p es := let ⟨dx, t, a, b⟩ := h; ⟨dx, t, s _ _ a, s.seqT b⟩
def spCInit (K : PySem.W.Frag) : Sp := fun vs H Q E => ∃ (x a dx : Addr) (es : List Int), vs = [.ref x, .ref a] ∧ H x = some (.ins (c_Cover K) dx []) ∧ SqA K H a (es.map V.int) ∧
  ∀ H' t, Same H H' → SqT K H' t (es.map V.int) → Q .non (upd H' x (.ins (c_Cover K) dx [("ends", .ref t)]))
theorem ok_Cover_init (T : Tx K mg) : Ok PG w K mg base CX0 2 (a_Cover_init K) p_Cover_init (spCInit K) := by
  refine Ok.of 1 T.f_Cover_init sc_Cover_init bi_Cover_init (by decide) (fun vs H Q E h => ?_) (fun cdv A outer s H vs Q E hr h => ?_)
  · obtain ⟨_, _, _, _, rfl, _⟩ := h
    rfl
  · obtain ⟨x, a, dx, es, rfl, hx, ha, h3⟩ := h
    refine ⟨_, pss_one (ps_fld (pv 0) (pe_callTy call_tuple_of (by rfl) T.m_tuple (by decide +kernel) (pa_cons (pv 1) pa_nil)) rfl), ?_⟩
    rcases ha with ha' | ha'
    · refine ⟨_, rfl, a, _, rfl, .inl ⟨ha', fun l hl' => ?_⟩⟩
      have hx' : upd H l (.tup (es.map V.int)) x = some (.ins (c_Cover K) dx []) := (Same.new hl') _ _ hx
      exact ⟨_, rfl, x, c_Cover K, dx, _, rfl, hx', T.cCover, T.nCover_ends, by decide, h3 _ l (.new hl') (SqT.of upd_same)⟩
    · refine ⟨_, rfl, a, _, rfl, .inr ⟨ha', ?_⟩⟩
      exact ⟨_, rfl, x, c_Cover K, dx, _, rfl, hx, T.cCover, T.nCover_ends, by decide, h3 _ a (.refl _) ha'⟩
theorem mk_cok {H : Hp} {a : Addr} {es : List Int} (ha : SqA K H a (es.map V.int)) (x dx : Addr) (hx : H x = none) (hdx : H dx = none) (hne : dx ≠ x) (Q : VK) (q : ∀ H', Same H H' → IsC K H' x es → Q .non H') :
    spCInit K ([.ref x, .ref a]) (upd (upd H dx (.own x)) x (.ins (c_Cover K) dx [])) Q (fun _ _ _ => False) := by
  have s1 : Same H (upd (upd H dx (.own x)) x (.ins (c_Cover K) dx [])) := (Same.new hdx).new' (by rw [upd_ne (Ne.symm hne)]; exact hx)
  refine ⟨x, a, dx, es, rfl, upd_same, s1.seqA ha, fun H' t s2 ht => ?_⟩
  have hx' : H' x = some (.ins (c_Cover K) dx []) := s2 _ _ upd_same
  have ms : Same H (upd H' x (.ins (c_Cover K) dx [("ends", .ref t)])) := fun b o q => by
    have : b ≠ x := fun z => by rw [z, hx] at q; cases q
    rw [upd_ne this]
    exact s2 _ _ (s1 _ _ q)
  exact q _ ms ⟨dx, t, upd_same, sqT_ins ht hx'⟩
def spCLen (K : PySem.W.Frag) : Sp := fun vs H Q _ => ∃ (p : Addr) (es : List Int), vs = [.ref p] ∧ IsC K H p es ∧ Q (.int es.length) H
theorem ok_Cover_len (T : Tx K mg) : Ok PG w K mg base CX0 2 (a_Cover_len K) p_Cover_len (spCLen K) := by
  refine Ok.of 1 T.f_Cover_len sc_Cover_len bi_Cover_len (by decide) (fun vs H Q E h => ?_) (fun cdv A outer s H vs Q E hr h => ?_)
  · obtain ⟨_, _, rfl, _⟩ := h
    rfl
  · obtain ⟨p, es, rfl, ⟨dx, t, h1, h2⟩, q⟩ := h
    refine ⟨_, pss_one (ps_ret (pe_callB call_len_seq (by rfl) T.m_len PySem.boot_len (pa_cons (pe_fld (pv 0) rfl) pa_nil))), ?_⟩
    refine ⟨_, rfl, p, _, dx, _, _, rfl, h1, T.cCover, T.nCover_ends, rfl, t, _, rfl, .inr h2, ?_⟩
    rw [List.length_map]
    exact q
def spCIn (K : PySem.W.Frag) : Sp := fun vs H Q _ => ∃ (p : Addr) (es : List Int) (n : Int), vs = [.ref p, .int n] ∧ IsC K H p es ∧ Q (.bl (decide (n ∈ es))) H
theorem ok_Cover_contains (T : Tx K mg) : Ok PG w K mg base CX0 2 (a_Cover_contains K) p_Cover_contains (spCIn K) := by
  refine Ok.of 1 T.f_Cover_contains sc_Cover_contains bi_Cover_contains (by decide) (fun vs H Q E h => ?_) (fun cdv A outer s H vs Q E hr h => ?_)
  · obtain ⟨_, _, _, rfl, _⟩ := h
    rfl
  · obtain ⟨p, es, n, rfl, ⟨dx, t, h1, h2⟩, q⟩ := h
    refine ⟨_, pss_one (ps_ret (pe_cmpR op_in_seq (pv 1) (pe_fld (pv 0) rfl) (by rfl))), ?_⟩
    refine ⟨_, rfl, _, rfl, p, _, dx, _, _, rfl, h1, T.cCover, T.nCover_ends, rfl, t, _, rfl, .inr h2, rfl, flat_ints _, ?_⟩
    rw [inV_ints]
    exact q
theorem it_Cover (T : Tx K mg) : OwnIt K mg (c_Cover K) (a_Cover_iter K) "ends" := by
  obtain ⟨fd, F⟩ := T.f_Cover_iter
  exact ownIt_of T.cCover T.nCover_ends T.wCover_iter.1 T.wCover_iter.2 T.m_iter F ⟨_, _, _, _, _, rfl, fun env h => by obtain ⟨⟩ := env; cases h; rfl⟩ ⟨rfl, rfl, by decide +kernel, rfl, rfl, rfl⟩ fun s fd v h1 h2 h3 => .of_eq (by obtain ⟨⟩ := fd; cases h1; cases h2; cases h3; rfl)
def spMost (K : PySem.W.Frag) : Sp := fun vs H Q _ => ∃ (p : Addr) (days starts : List Int) (gap : Nat), vs = [.ref p] ∧ IsH K H p days starts (gap : Nat) ∧ gap ≤ 60 ∧ Q (.int (most gap days.length)) H
theorem ok_most_stretches (T : Tx K mg) : Ok PG w K mg base CX0 6 (a_most_stretches K) p_most_stretches (spMost K) := by
  refine Ok.of 5 T.f_most_stretches sc_most_stretches bi_most_stretches (by decide) (fun vs H Q E h => ?_) (fun cdv A outer s H vs Q E hr h => ?_)
  · obtain ⟨_, _, _, _, rfl, _⟩ := h
    rfl
  · obtain ⟨p, days, starts, gap, rfl, hh, lg, q⟩ := h
    obtain ⟨dx, wp, t, h1, h2, h3, l1, l2⟩ := id hh
    refine ⟨_, pss_one (ps_ret (pe_op op_fdivW (pe_op op_add (pprop (ok_House_nights T) (pv 0) T.cHouse T.wHouse_nights hr pass0) (pe_fld (pv 0) rfl)) (pe_op op_add (pe_fld (pv 0) rfl) pe_int))), ?_⟩
    refine ⟨_, rfl, p, dx, _, rfl, h1, p, days, starts, _, rfl, hh, _, rfl, p, _, dx, _, _, rfl, h1, T.cHouse, T.nHouse_rest, rfl, _, _, rfl, rfl, _, rfl, p, _, dx, _, _, rfl, h1, T.cHouse, T.nHouse_rest, rfl, _, _, rfl, rfl, ?_⟩
    exact ⟨_, _, rfl, rfl, ⟨by omega, Nat.lt_of_le_of_lt (Nat.log2_le_self _) (by omega)⟩, q⟩
def spFault (K : PySem.W.Frag) : Sp := fun vs H Q _ => ∃ (h c : Addr) (days starts es : List Int) (gap : Int), vs = [.ref h, .ref c] ∧ IsH K H h days starts gap ∧ IsC K H c es ∧
  (faultOf gap days.length none es = none → ∀ H', Same H H' → Q .non H') ∧ (∀ f, faultOf gap days.length none es = some f → ∀ H' t, Same H H' → SqT K H' t (tell f) → Q (.ref t) H')
theorem ok_cover_fault (T : Tx K mg) : Ok PG w K mg base CX0 6 (a_cover_fault K) p_cover_fault (spFault K) := by
  refine Ok.of 5 T.f_cover_fault sc_cover_fault bi_cover_fault (by decide) (fun vs H Q E h => ?_) (fun cdv A outer s H vs Q E hr h => ?_)
  · obtain ⟨_, _, _, _, _, _, rfl, _⟩ := h
    rfl
  · obtain ⟨h, c, days, starts, es, gap, rfl, hh, hc, q0, q1⟩ := h
    obtain ⟨dx, wp, t, h1, h2, h3, l1, l2⟩ := id hh
    obtain ⟨dc, u, c1, c2⟩ := id hc
    have nd := sc_cover_fault.nd
    refine ⟨_, pss_cons (ps_for (passX rfl) rfl (pi_enumW (by rfl) T.m_enumerate (pa_cons (pe_fld (pv 1) rfl) pa_nil)) (pg_tup rfl (pgs_cons (pg_name (i := 2) nd rfl (.inl rfl)) (pgs_cons (pg_name (i := 3) nd rfl (.inl rfl)) pgs_nil)))
        (pss_cons (ps_if (pt_not (pt_chain op_le op_le pe_int (pv 3) (pprop (ok_House_nights T) (pv 0) T.cHouse T.wHouse_nights hr pass0))) (pss_one (ps_ret (pe_tup (pa_cons pe_str (pa_cons (pv 3) pa_nil))))) pss_nil)
          (pss_one (ps_if (PW.pt (pw_and (pt_cmpR op_gt (pv 2) pe_int (nomark _)) (pw_and1 (pt_cmpR op_le (pe_op op_sub (pv 3) (pe_ix ix_tup (pe_fld (pv 1) rfl) (pe_op op_sub (pv 2) pe_int) (fun _ _ => rfl))) (pe_fld (pv 0) rfl) (nomark _))))) (pss_one (ps_ret (pe_tup (pa_cons pe_str (pa_cons (pe_ix ix_tup (pe_fld (pv 1) rfl) (pe_op op_sub (pv 2) pe_int) (fun _ _ => rfl)) (pa_cons (pv 3) pa_nil)))))) pss_nil))))
      (pss_one (ps_ret pe_non)), ?_⟩
    refine ⟨_, rfl, c, _, dc, _, _, rfl, c1, T.cCover, T.nCover_ends, rfl, u, es.map V.int, rfl, .inr c2, fun J G hG wk => ?_⟩
    refine for_it wk (fun i σ H' => ∃ x2 x3, σ = [some (.ref h), some (.ref c), x2, x3] ∧ Same H H' ∧ faultOf gap days.length (pre es i) (es.drop i) = faultOf gap days.length none es) ⟨none, none, rfl, .refl _, rfl⟩ (fun i _ H' _ z => hG _ (let ⟨_, _, _, s, _⟩ := z; s)) (fun i z σ H0 H1 hi p z => ?_) (fun σ H' p => ?_)
    · obtain ⟨x2, x3, rfl, sm, hb⟩ := p
      obtain ⟨T', x', y', rfl, hT, rfl, e1, e2⟩ := z
      obtain ⟨e, he, rfl⟩ := map_get e2
      cases e1
      have sm' : Same H (upd H0 T' (.tup [.int (i : Nat), .int e])) := sm.new' hT
      obtain ⟨b1, b2, b3⟩ := fault_step hb he
      refine ⟨T', _, rfl, SqT.of upd_same, rfl, _, _, rfl, _, _, rfl, rfl, ?_⟩
      generalize upd H0 T' (.tup [.int (i : Nat), .int e]) = H1 at sm' ⊢
      have bad : ¬ (1 ≤ e ∧ e ≤ (days.length : Int)) → ∀ x, H1 x = none → Q (.ref x) (upd H1 x (.tup [.str "end", .int e])) := fun cc x hx => q1 _ (b1 cc) _ x (sm'.new' hx) (SqT.of upd_same)
      refine ⟨_, rfl, _, _, rfl, rfl, _, rfl, ite2 (fun cc => ?_) (fun cc => ?_)⟩
      · refine ⟨_, rfl, h, dx, _, rfl, sm' _ _ h1, h, days, starts, gap, rfl, hh.same sm', _, _, rfl, rfl, _, rfl, ite2 (fun d => ?_) (fun d => ?_)⟩
        · exact ⟨_, rfl, by show 2 ≤ sizeLine; decide, fun x hx => bad (fun y => by simp [y.2] at d) x hx⟩
        · have cc : 1 ≤ e ∧ e ≤ (days.length : Int) := ⟨of_decide_eq_true cc, by simpa using d⟩
          refine ⟨_, rfl, _, _, rfl, rfl, _, rfl, ite2 (fun i0 => ?_) (fun i0 => ?_)⟩
          · have i0 := of_decide_eq_true i0
            obtain ⟨j, rfl⟩ : ∃ j : Nat, i = j + 1 := ⟨i - 1, by omega⟩
            have hj : j < es.length := by rw [List.length_map] at hi; omega
            have hm : (es.map V.int)[j]? = some (V.int es[j]) := by rw [List.getElem?_map, List.getElem?_eq_getElem hj]; rfl
            obtain ⟨n1, n2⟩ := b3 cc j es[j] rfl (List.getElem?_eq_getElem hj)
            have at1 : atI (es.map V.int) (((j + 1 : Nat) : Int) - 1) = some (V.int es[j]) := by rw [show ((j + 1 : Nat) : Int) - 1 = (j : Nat) by omega]; exact atI_nat hm
            refine ⟨_, rfl, _, rfl, c, _, dc, _, _, rfl, sm' _ _ c1, T.cCover, T.nCover_ends, rfl, _, rfl, _, _, rfl, rfl, u, _, _, _, rfl, rfl, sm'.seqT c2, at1, _, _, rfl, rfl, _, rfl, h, _, dx, _, _, rfl, sm' _ _ h1, T.cHouse, T.nHouse_rest, rfl, _, _, rfl, rfl, _, rfl, ite2 (fun d => ?_) (fun d => ?_)⟩
            · refine ⟨_, rfl, c, _, dc, _, _, rfl, sm' _ _ c1, T.cCover, T.nCover_ends, rfl, _, rfl, _, _, rfl, rfl, u, _, _, _, rfl, rfl, sm'.seqT c2, at1, _, rfl, by show 3 ≤ sizeLine; decide, fun x hx => ?_⟩
              exact q1 _ (n1 (of_decide_eq_true d)) _ x (sm'.new' hx) (SqT.of upd_same)
            · exact ⟨_, _, rfl, sm', n2 (by simpa using d)⟩
          · have i0 : i = 0 := by simpa using i0
            exact ⟨_, _, rfl, sm', b2 cc i0⟩
      · refine ⟨_, rfl, iteT ?_⟩
        exact ⟨_, rfl, by show 2 ≤ sizeLine; decide, fun x hx => bad (fun y => cc (decide_eq_true y.1)) x hx⟩
    · obtain ⟨x2, x3, rfl, sm, hb⟩ := p
      rw [List.length_map] at hb
      exact q0 (fault_end hb) H' sm
end
end K10

set_option maxRecDepth 100000
set_option maxHeartbeats 8000000
namespace K10
open PySem PySem.Spec PyProof.Rows L2
abbrev xV (t : Addr) : HO := .xd [("fault", .ref t)]
/-- what comes of a cover that has a fault -/
def ErrC (K : PySem.W.Frag) (f : Option (Option Int × Int)) (H : Hp) (E : XK) : Prop := ∀ g, f = some g → ∀ H' t, Same H H' → SqT K H' t (tell g) → Rs (c_BadCover K) (xV t) H' E
/-- the stretches of ends, at xs -/
def Strs (K : PySem.W.Frag) (gap : Int) (H : Hp) (xs : List V) (es : List Int) : Prop := xs.length = es.length ∧ ∀ (i : Nat) (e : Int), es[i]? = some e → ∃ t, xs[i]? = some (.ref t) ∧ SqT K H t [.int (firstOf gap e), .int e]
theorem Strs.same {K : PySem.W.Frag} {gap : Int} {H H' : Hp} {xs : List V} {es : List Int} (h : Strs K gap H xs es) (s : Same H H') : Strs K gap H' xs es := ⟨h.1, fun i e he => let ⟨t, a, b⟩ := h.2 i e he; ⟨t, a, s.seqT b⟩⟩
theorem Strs.nil {K : PySem.W.Frag} {gap : Int} {H : Hp} : Strs K gap H [] [] := ⟨rfl, fun i e he => by cases he⟩
theorem Strs.snoc {K : PySem.W.Frag} {gap : Int} {H : Hp} {xs : List V} {es : List Int} (h : Strs K gap H xs es) {t : Addr} {e : Int} (ht : SqT K H t [.int (firstOf gap e), .int e]) : Strs K gap H (xs ++ [.ref t]) (es ++ [e]) := by
  refine ⟨by rw [List.length_append, List.length_append, h.1]; rfl, fun i x hx => ?_⟩
  by_cases c : i < es.length
  · rw [List.getElem?_append_left c] at hx
    obtain ⟨u, a, b⟩ := h.2 i x hx
    exact ⟨u, by rw [List.getElem?_append_left (by rw [h.1]; exact c)]; exact a, b⟩
  · rw [List.getElem?_append_right (by omega)] at hx
    have : i - es.length = 0 := by
      obtain ⟨z, _⟩ := List.getElem?_eq_some_iff.mp hx
      simp at z; omega
    rw [this] at hx
    cases hx
    exact ⟨t, by rw [List.getElem?_append_right (by rw [h.1]; omega), h.1, this]; rfl, ht⟩
def inside (gap : Int) (es : List Int) (n : Int) : Bool := es.any fun e => decide (e - gap ≤ n) && decide (n ≤ e)
theorem inside_first {gap e n : Int} (h : 1 ≤ n) : (decide (e - gap ≤ n) && decide (n ≤ e)) = (decide (firstOf gap e ≤ n) && decide (n ≤ e)) := by
  unfold firstOf
  congr 1
  split
  · rfl
  · rw [decide_eq_true (by omega), decide_eq_true h]
/-- the nights up to n that are in no stretch -/
def outs (gap : Int) (es : List Int) (n : Nat) : List Int := ((List.range n).map fun j => 1 + ((j : Nat) : Int)).filter fun x => !inside gap es x
theorem outs_succ {gap : Int} {es : List Int} {n : Nat} : outs gap es (n + 1) = if inside gap es (1 + (n : Nat)) = true then outs gap es n else outs gap es n ++ [1 + ((n : Nat) : Int)] := by
  unfold outs
  rw [List.range_succ, List.map_append, List.filter_append]
  show _ ++ List.filter _ [1 + ((n : Nat) : Int)] = _
  cases h : inside gap es (1 + ((n : Nat) : Int)) with
  | true => rw [List.filter_cons_of_neg (by simp [h])]; simp
  | false => rw [List.filter_cons_of_pos (by simp [h])]; simp
theorem outs_len {gap : Int} {es : List Int} {n : Nat} : (outs gap es n).length ≤ n := by
  refine Nat.le_trans (List.length_filter_le _ _) ?_
  rw [List.length_map, List.length_range]; omega
def fromE (es : List Int) (s : Int) : List Int := es.filter fun e => decide (e ≥ s)
theorem fromE_take {es : List Int} {s e : Int} {i : Nat} (h : es[i]? = some e) : fromE (es.take (i + 1)) s = if e ≥ s then fromE (es.take i) s ++ [e] else fromE (es.take i) s := by
  unfold fromE
  rw [List.take_succ, h]
  show List.filter _ (_ ++ [e]) = _
  rw [List.filter_append]
  split
  · rename_i c; rw [List.filter_cons_of_pos (by simpa using c)]; rfl
  · rename_i c; rw [List.filter_cons_of_neg (by simpa using c)]; simp
theorem fromE_len {es : List Int} {s : Int} : (fromE es s).length ≤ es.length := List.length_filter_le _ _
section
variable {w : World} {K : PySem.W.Frag} {mg : Str → Option Value} {base : Heap}
def spCC (K : PySem.W.Frag) : Sp := fun vs H Q E => ∃ (h c : Addr) (days starts es : List Int) (gap : Int), vs = [.ref h, .ref c] ∧ IsH K H h days starts gap ∧ IsC K H c es ∧
  ErrC K (faultOf gap days.length none es) H E ∧ (faultOf gap days.length none es = none → ∀ H', Same H H' → Q .non H')
theorem ok_check_cover (T : Tx K mg) : Ok PG w K mg base (L2.CX PG w) 7 (a_check_cover K) p_check_cover (spCC K) := by
  refine Ok.of 6 T.f_check_cover sc_check_cover bi_check_cover (by decide) (fun vs H Q E h => ?_) (fun cdv A outer s H vs Q E hr h => ?_)
  · obtain ⟨_, _, _, _, _, _, rfl, _⟩ := h
    rfl
  · obtain ⟨h, c, days, starts, es, gap, rfl, hh, hc, q1, q0⟩ := h
    have nd := sc_check_cover.nd
    refine ⟨_, pss_cons (ps_set (i := 2) nd rfl (.inl rfl) (pc (ok_cover_fault T) hr T.g_cover_fault pass0 (pa_cons (pv 0) (pa_cons (pv 1) pa_nil))))
      (pss_one (ps_if (pt_cmpR op_notN (pv 2) pe_non (nomark _)) (pss_one (ps_raiseX rfl T.e_BadCover (by decide) (by decide) hr (takes_of rfl rfl rfl rfl) rfl (pa_cons (pv 2) pa_nil))) pss_nil)), ?_⟩
    refine ⟨_, rfl, _, rfl, h, c, days, starts, es, gap, rfl, hh, hc, fun z H1 s1 => ?_, fun f z H1 t s1 ht => ?_⟩
    · exact ⟨_, rfl, rfl, _, rfl, iteF (q0 z H1 s1)⟩
    · exact ⟨_, rfl, rfl, _, rfl, iteT ⟨_, rfl, rfl, fun d hd => (q1 f z H1 t s1 ht).now d hd⟩⟩
def spStrOf (K : PySem.W.Frag) : Sp := fun vs H Q E => ∃ (h c : Addr) (days starts es : List Int) (gap : Int), vs = [.ref h, .ref c] ∧ IsH K H h days starts gap ∧ IsC K H c es ∧ es.length ≤ 1000 ∧
  ErrC K (faultOf gap days.length none es) H E ∧ (faultOf gap days.length none es = none → ∀ H' l xs, Same H H' → H l = none → H' l = some (.lst xs) → Strs K gap H' xs es → Q (.ref l) H')
theorem ok_stretches_of (T : Tx K mg) : Ok PG w K mg base (L2.CX PG w) 8 (a_stretches_of K) p_stretches_of (spStrOf K) := by
  refine Ok.of 7 T.f_stretches_of sc_stretches_of bi_stretches_of (by decide) (fun vs H Q E h => ?_) (fun cdv A outer s H vs Q E hr h => ?_)
  · obtain ⟨_, _, _, _, _, _, rfl, _⟩ := h
    rfl
  · obtain ⟨h, c, days, starts, es, gap, rfl, hh, hc, le, q1, q0⟩ := h
    obtain ⟨dc, u, c1, c2⟩ := id hc
    have nd := sc_stretches_of.nd
    refine ⟨_, pss_cons (ps_expr (pc (ok_check_cover T) hr T.g_check_cover px (pa_cons (pv 0) (pa_cons (pv 1) pa_nil))))
      (pss_one (ps_ret (pe_lc (own := [("end", 2)]) (g := gName 2) (tt := tYes) rfl nd (pi_tup (pe_fld (pv 1) rfl)) (blkOk_by (N := n_stretches_of) (sc := defScope s_stretches_of) (by decide +kernel)) (fun _ _ _ _ _ => pg_name (i := 2) nd rfl (Or.inl rfl)) (fun _ _ _ _ _ => pts_nil) (fun _ _ _ _ _ => pmeth (ok_House_stretch T) (pv 0) T.cHouse T.wHouse_stretch (hr.mono (by decide)) passF (pa_cons (pv 2) pa_nil))))), ?_⟩
    refine ⟨_, rfl, _, rfl, h, c, days, starts, es, gap, rfl, hh, hc, q1, fun z H1 s1 => ?_⟩
    have ein := fault_in z
    have hh1 := hh.same s1
    obtain ⟨dx, wp, t, h1, h2, h3, l1, l2⟩ := id hh1
    refine ⟨_, rfl, c, _, dc, _, _, rfl, s1 _ _ c1, T.cCover, T.nCover_ends, rfl, u, rfl, ⟨_, s1.seqT c2⟩, fun D hD => ?_⟩
    refine lc_tup (xs := es.map V.int) (fun i H' => ∃ xs, Same H1 H' ∧ H' D = some (.lst xs) ∧ Strs K gap H' xs (es.take i)) ⟨[], .new hD, upd_same, by rw [List.take_zero]; exact .nil⟩ (fun i H' _ z => z.elim fun xs z => z.1.seqT (s1.seqT c2)) (fun i x H' hx z => ?_) (fun H' z => ?_)
    · obtain ⟨e, he, rfl⟩ := map_get hx
      obtain ⟨xs, sm, hd, st⟩ := z
      have ee := ein e (List.mem_of_getElem? he)
      have hi : i < es.length := (List.getElem?_eq_some_iff.mp he).1
      refine ⟨rfl, yesT ?_⟩
      refine ⟨_, rfl, h, dx, _, rfl, sm _ _ h1, rfl, _, rfl, h, days, starts, gap, e, rfl, hh1.same sm, fun c => absurd ee c, fun _ tt htt => ?_⟩
      have s2 : Same H' (upd H' tt (.tup [.int (firstOf gap e), .int e])) := .new htt
      refine ⟨xs, s2 _ _ hd, by rw [st.1, List.length_take, sizeLine_eq]; omega, xs ++ [.ref tt], fun b o eb => ?_, upd_same, ?_⟩
      · rw [upd_ne (fun z => by rw [z, hD] at eb; cases eb)]
        exact s2 _ _ (sm _ _ eb)
      · rw [List.take_succ, he]
        have k := (st.same s2).snoc (t := tt) (e := e) (SqT.of upd_same)
        exact ⟨k.1, fun j x hj => let ⟨t', a, b⟩ := k.2 j x hj; ⟨t', a, (But.set (p := D)).seqT (s2 _ _ hd) b⟩⟩
    · obtain ⟨xs, sm, hd, st⟩ := z
      rw [List.length_map, List.take_length] at st
      exact q0 z H' D xs (s1.trans sm) (s1.free hD) hd st
abbrev lcSc1 : Scope := { kind := .function, names := [(".0", .local), ("night", .cell), ("any", .globalImplicit), ("stretches", .cell)], isGenerator := false, isCoroutine := false }
def spOut (K : PySem.W.Frag) : Sp := fun vs H Q E => ∃ (h c : Addr) (days starts es : List Int) (gap : Int), vs = [.ref h, .ref c] ∧ IsH K H h days starts gap ∧ IsC K H c es ∧ es.length ≤ 1000 ∧
  ErrC K (faultOf gap days.length none es) H E ∧ (faultOf gap days.length none es = none → ∀ H' l, Same H H' → H l = none → H' l = some (.lst ((outs gap es days.length).map V.int)) → Q (.ref l) H')
theorem ok_outside_nights (T : Tx K mg) : Ok PG w K mg base (L2.CX PG w) 9 (a_outside_nights K) p_outside_nights (spOut K) := by
  refine Ok.of 8 T.f_outside_nights sc_outside_nights bi_outside_nights (by decide) (fun vs H Q E h => ?_) (fun cdv A outer s H vs Q E hr h => ?_)
  · obtain ⟨_, _, _, _, _, _, rfl, _⟩ := h
    rfl
  · obtain ⟨h, c, days, starts, es, gap, rfl, hh, hc, le, q1, q0⟩ := h
    have nd := sc_outside_nights.nd
    refine ⟨_, pss_cons (ps_set (i := 2) nd rfl (.inr rfl) (pc (ok_stretches_of T) hr T.g_stretches_of px (pa_cons (pv 0) (pa_cons (pv 1) pa_nil))))
      (pss_one (ps_ret (pe_lc (own := [("night", 3)]) (g := gName 3) rfl nd (pi_range2 rfl T.m_range (pa_cons pe_int (pa_cons (pe_op op_add (pprop (ok_House_nights T) (pv 0) T.cHouse T.wHouse_nights (hr.mono (by decide)) pass0) pe_int) pa_nil))) (blkOk_by (N := n_outside_nights) (sc := defScope s_outside_nights) (by decide +kernel)) (fun _ _ _ _ _ => pg_name (i := 3) nd rfl (Or.inr rfl)) (fun _ _ _ _ _ => pts_one (pt_not (pt_val (pe_callB (r := rAny K) (cr_any rfl) (by rfl) T.m_any (by decide +kernel) (pa_cons (pe_lc (own := [("first", 4), ("end", 5)]) (g := gTup K 2 (gCons (gName 4) (gCons (gName 5) gNil))) (tt := tYes) (wi := iList K (tVar 2)) rfl nd (pi_list (pv 2)) (blkOk_by (N := n_outside_nights) (sc := lcSc1) (by decide +kernel)) (fun _ _ _ _ _ => pg_tup rfl (pgs_cons (pg_name (i := 4) nd rfl (Or.inl rfl)) (pgs_cons (pg_name (i := 5) nd rfl (Or.inl rfl)) pgs_nil))) (fun _ _ _ _ _ => pts_nil) (fun _ _ _ _ _ => pe_chain op_le op_le (pv 4) (pv 3) (pv 5))) pa_nil))))) (fun _ _ _ _ _ => pv 3)))), ?_⟩
    refine ⟨_, rfl, _, rfl, h, c, days, starts, es, gap, rfl, hh, hc, le, q1, fun z H1 l xs s1 hl0 hl st => ?_⟩
    have hh1 := hh.same s1
    obtain ⟨dx, wp, t, h1, h2, h3, l1, l2⟩ := id hh1
    refine ⟨_, rfl, h, dx, _, rfl, h1, h, days, starts, _, rfl, hh1, _, _, rfl, rfl, _, _, rfl, ⟨by omega, by omega, by omega, by omega⟩, fun D hD => ?_⟩
    have hN : ((days.length : Int) + 1 - 1).toNat = days.length := by omega
    refine lc_range (lo := 1) (n := ((days.length : Int) + 1 - 1).toNat) (fun i H' => Same H1 H' ∧ H' D = some (.lst ((outs gap es i).map V.int))) ⟨.new hD, upd_same⟩ (fun i H' hi z => ?_) (fun H' z => ?_)
    · rw [hN] at hi
      obtain ⟨sm, hd⟩ := z
      refine ⟨rfl, ?_⟩
      refine ⟨_, rfl, l, rfl, ⟨_, SqL.of (sm _ _ hl)⟩, fun F hF => ?_⟩
      refine lc_list (xs := xs) (fun j H2 => Same H' H2 ∧ H2 F = some (.lst (((es.take j).map fun e => decide (e - gap ≤ 1 + ((i : Nat) : Int)) && decide (1 + ((i : Nat) : Int) ≤ e)).map V.bl))) ⟨.new hF, upd_same⟩ (fun j H2 _ z => z.1.seq (SqL.of (sm _ _ hl))) (fun j x H2 hx z => ?_) (fun H2 z => ?_)
      · obtain ⟨s2, hf⟩ := z
        have hj : j < es.length := by rw [← st.1]; exact (List.getElem?_eq_some_iff.mp hx).1
        obtain ⟨tt, t1, t2⟩ := st.2 j es[j] (List.getElem?_eq_getElem hj)
        rw [hx] at t1
        cases t1
        have tk : es.take (j + 1) = es.take j ++ [es[j]] := by rw [List.take_succ, List.getElem?_eq_getElem hj]; rfl
        refine ⟨tt, _, rfl, (sm.trans s2).seqT t2, rfl, _, _, rfl, _, _, rfl, rfl, rfl, yesT ?_⟩
        have fin : ∀ b, b = (decide (es[j] - gap ≤ 1 + ((i : Nat) : Int)) && decide (1 + ((i : Nat) : Int) ≤ es[j])) → ∃ acc, H2 F = some (.lst acc) ∧ acc.length < sizeLine ∧ Same H' (upd H2 F (.lst (acc ++ [V.bl b]))) ∧ upd H2 F (.lst (acc ++ [V.bl b])) F = some (.lst (((es.take (j + 1)).map fun e => decide (e - gap ≤ 1 + ((i : Nat) : Int)) && decide (1 + ((i : Nat) : Int) ≤ e)).map V.bl)) := fun b hb => by
          refine ⟨_, hf, ?_, fun b o eb => ?_, ?_⟩
          · rw [List.length_map, List.length_map, List.length_take, sizeLine_eq]; omega
          · rw [upd_ne (fun z => by rw [z, hF] at eb; cases eb)]
            exact s2 _ _ eb
          · rw [upd_same, tk, List.map_append, List.map_append, hb]; rfl
        rw [inside_first (by omega)] at fin
        refine ⟨_, rfl, _, rfl, _, _, rfl, rfl, _, rfl, ite2 (fun c => ?_) (fun c => ?_)⟩
        · refine ⟨_, rfl, _, _, rfl, rfl, ?_⟩
          exact fin _ (by rw [c]; rfl)
        · exact fin _ (by rw [eq_false_of_ne_true c]; rfl)
      · obtain ⟨s2, hf⟩ := z
        rw [st.1, List.take_length] at hf
        have hd2 := s2 _ _ hd
        refine ⟨F, _, rfl, SqL.of hf, _, rfl, ?_⟩
        have ei : ((es.map fun e => decide (e - gap ≤ 1 + ((i : Nat) : Int)) && decide (1 + ((i : Nat) : Int) ≤ e)).any id) = inside gap es (1 + ((i : Nat) : Int)) := by rw [List.any_map]; rfl
        rw [ei]
        rw [outs_succ]
        refine ite2 (fun c => ?_) (fun c => ?_)
        · have c : inside gap es (1 + ((i : Nat) : Int)) = false := by simpa using c
          rw [c]
          refine ⟨_, rfl, _, hd2, by rw [List.length_map, sizeLine_eq]; have := @outs_len gap es i; omega, fun b o e => ?_, ?_⟩
          · rw [upd_ne (fun z => by rw [z, hD] at e; cases e)]
            exact s2 _ _ (sm _ _ e)
          · rw [upd_same, if_neg (by decide), List.map_append]; rfl
        · have c : inside gap es (1 + ((i : Nat) : Int)) = true := by simpa using c
          rw [c, if_pos rfl]
          exact ⟨sm.trans s2, hd2⟩
    · obtain ⟨sm, hd⟩ := z
      rw [hN] at hd
      exact q0 z H' D (s1.trans sm) (s1.free hD) hd
def spFrom (K : PySem.W.Frag) : Sp := fun vs H Q E => ∃ (h c : Addr) (days starts es : List Int) (gap n : Int), vs = [.ref h, .ref c, .int n] ∧ IsH K H h days starts gap ∧ IsC K H c es ∧ es.length ≤ 1000 ∧
  ErrC K (faultOf gap days.length none es) H E ∧ (faultOf gap days.length none es = none → (¬ (0 ≤ n ∧ n < starts.length) → Rs (c_NoPerson K) (xP n) H E) ∧ ((0 ≤ n ∧ n < starts.length) → ∀ H', Same H H' → Q (.int ((fromE es (starts.getD n.toNat 0)).length : Nat)) H'))
theorem ok_ends_from (T : Tx K mg) : Ok PG w K mg base (L2.CX PG w) 8 (a_ends_from K) p_ends_from (spFrom K) := by
  refine Ok.of 7 T.f_ends_from sc_ends_from bi_ends_from (by decide) (fun vs H Q E h => ?_) (fun cdv A outer s H vs Q E hr h => ?_)
  · obtain ⟨_, _, _, _, _, _, _, rfl, _⟩ := h
    rfl
  · obtain ⟨h, c, days, starts, es, gap, n, rfl, hh, hc, le, q1, q0⟩ := h
    obtain ⟨dc, u, c1, c2⟩ := id hc
    have nd := sc_ends_from.nd
    refine ⟨_, pss_cons (ps_expr (pc (ok_check_cover T) hr T.g_check_cover px (pa_cons (pv 0) (pa_cons (pv 1) pa_nil))))
      (pss_cons (ps_expr (pc (ok_check_person T) (hr.mono (by decide)) T.g_check_person px (pa_cons (pv 0) (pa_cons (pv 2) pa_nil))))
      (pss_one (ps_ret (pe_callB call_len_seq (by rfl) T.m_len PySem.boot_len (pa_cons (pe_lc (own := [("end", 3)]) (g := gName 3) rfl nd (pi_tup (pe_fld (pv 1) rfl)) (blkOk_by (N := n_ends_from) (sc := defScope s_ends_from) (by decide +kernel)) (fun _ _ _ _ _ => pg_name (i := 3) nd rfl (Or.inl rfl)) (fun _ _ _ _ _ => pts_one (pt_cmpR op_ge (pv 3) (pe_ix (r := rIxT K) (ta := tFld K (tVar 0) "comings") (tb := tVar 2) ix_tup (pe_fld (pv 0) rfl) (pv 2) (fun _ _ => rfl)) (nomark _))) (fun _ _ _ _ _ => pv 3)) pa_nil))))), ?_⟩
    refine ⟨_, rfl, _, rfl, h, c, days, starts, es, gap, rfl, hh, hc, q1, fun z H1 s1 => ?_⟩
    have hh1 := hh.same s1
    obtain ⟨dx, wp, t, h1, h2, h3, l1, l2⟩ := id hh1
    obtain ⟨qe, qq⟩ := q0 z
    refine ⟨_, rfl, _, rfl, h, days, starts, gap, n, rfl, hh1, fun cc => (qe cc).same s1, fun cc => ?_⟩
    refine ⟨_, rfl, c, _, dc, _, _, rfl, s1 _ _ c1, T.cCover, T.nCover_ends, rfl, u, rfl, ⟨_, s1.seqT c2⟩, fun D hD => ?_⟩
    obtain ⟨k, rfl⟩ : ∃ k : Nat, n = (k : Nat) := ⟨n.toNat, by omega⟩
    have hk : k < starts.length := by omega
    have hm : (starts.map V.int)[k]? = some (V.int (starts.getD k 0)) := by rw [List.getElem?_map, List.getD_eq_getElem?_getD, List.getElem?_eq_getElem hk]; rfl
    refine lc_tup (xs := es.map V.int) (fun i H' => Same H1 H' ∧ H' D = some (.lst ((fromE (es.take i) (starts.getD k 0)).map V.int))) ⟨.new hD, upd_same⟩ (fun i H' _ z => z.1.seqT (s1.seqT c2)) (fun i x H' hx z => ?_) (fun H' z => ?_)
    · obtain ⟨e, he, rfl⟩ := map_get hx
      obtain ⟨sm, hd⟩ := z
      refine ⟨rfl, _, rfl, _, rfl, h, _, dx, _, _, rfl, sm _ _ h1, T.cHouse, T.nHouse_comings, rfl, _, rfl, t, _, _, _, rfl, rfl, sm.seqT h3, atI_nat hm, _, _, rfl, rfl, _, rfl, ?_⟩
      rw [fromE_take he]
      refine ite2 (fun c => ?_) (fun c => ?_)
      · have c := of_decide_eq_true c
        rw [if_pos c]
        refine ⟨_, rfl, _, hd, by rw [List.length_map, sizeLine_eq]; have := @fromE_len (es.take i) (starts.getD k 0); rw [List.length_take] at this; omega, fun b o eb => ?_, ?_⟩
        · rw [upd_ne (fun z => by rw [z, hD] at eb; cases eb)]
          exact sm _ _ eb
        · rw [upd_same, List.map_append]; rfl
      · rw [if_neg (by simpa using c)]
        exact ⟨sm, hd⟩
    · obtain ⟨sm, hd⟩ := z
      rw [List.length_map, List.take_length] at hd
      refine ⟨D, _, rfl, .inl (SqL.of hd), ?_⟩
      rw [List.length_map]
      exact qq cc H' (s1.trans sm)
end
end K10

set_option maxRecDepth 100000
set_option maxHeartbeats 8000000
namespace K10
open PySem PySem.Spec PyProof.Rows L2
section
variable {w : World} {K : PySem.W.Frag} {mg : Str → Option Value} {base : Heap}
def spInside (K : PySem.W.Frag) : Sp := fun vs H Q _ => ∃ (a : Addr) (es : List Int) (gap n : Int), vs = [.ref a, .int gap, .int n] ∧ SqL K H a (es.map V.int) ∧ Q (.bl (inside gap es n)) H
theorem ok_law_inside (T : Tx K mg) : Ok PG w K mg base CX0 2 (a_law_inside K) p_law_inside (spInside K) := by
  refine Ok.of 1 T.f_law_inside sc_law_inside bi_law_inside (by decide) (fun vs H Q E h => ?_) (fun cdv A outer s H vs Q E hr h => ?_)
  · obtain ⟨_, _, _, _, rfl, _⟩ := h
    rfl
  · obtain ⟨a, es, gap, n, rfl, ha, q⟩ := h
    have nd := sc_law_inside.nd
    refine ⟨_, pss_cons (ps_for (passX rfl) rfl (pi_list (pv 0)) (pg_name (i := 3) nd rfl (.inl rfl))
        (pss_one (ps_if (pt_chain op_le op_le (pe_op op_sub (pv 3) (pv 1)) (pv 2) (pv 3)) (pss_one (ps_ret pe_bl)) pss_nil)))
      (pss_one (ps_ret pe_bl)), ?_⟩
    refine ⟨_, rfl, a, rfl, ⟨_, ha⟩, ?_⟩
    refine for_list (xs := es.map V.int) (fun i σ H' => ∃ x3, σ = [some (.ref a), some (.int gap), some (.int n), x3] ∧ H' = H ∧ inside gap (es.take i) n = false) ⟨none, rfl, rfl, rfl⟩ (fun _ σ H' _ z => (let ⟨_, _, e, _⟩ := z; e ▸ ha)) ?_ ?_
    · rintro i x σ H' hx ⟨x3, rfl, rfl, hn⟩
      obtain ⟨e, he, rfl⟩ := map_get hx
      have tk : es.take (i + 1) = es.take i ++ [e] := by rw [List.take_succ, he]; rfl
      have nx : (decide (e - gap ≤ n) && decide (n ≤ e)) = false → inside gap (es.take (i + 1)) n = false := fun z => by
        rw [tk, inside, List.any_append]
        rw [inside] at hn
        rw [hn]
        simpa using z
      refine ⟨_, rfl, _, rfl, _, _, rfl, rfl, _, rfl, _, _, rfl, rfl, _, rfl, ite2 (fun c => ?_) (fun c => ?_)⟩
      · refine ⟨_, rfl, _, _, rfl, rfl, _, rfl, ite2 (fun d => ?_) (fun d => ?_)⟩
        · have : inside gap es n = true := List.any_eq_true.mpr ⟨e, List.mem_of_getElem? he, by rw [c, d]; rfl⟩
          rw [this] at q
          exact q
        · exact ⟨_, rfl, rfl, nx (by rw [eq_false_of_ne_true d, Bool.and_false])⟩
      · exact ⟨_, rfl, iteF ⟨_, rfl, rfl, nx (by rw [eq_false_of_ne_true c]; rfl)⟩⟩
    · rintro σ H' ⟨x3, rfl, rfl, hn⟩
      rw [List.length_map, List.take_length] at hn
      rw [hn] at q
      exact q
def spEnds (K : PySem.W.Frag) : Sp := fun vs H Q _ => ∃ (a : Addr) (es : List Int) (s : Int), vs = [.ref a, .int s] ∧ SqL K H a (es.map V.int) ∧ es.length ≤ 1000 ∧ ∀ H', Same H H' → Q (.int ((fromE es s).length : Nat)) H'
theorem ok_law_ends (T : Tx K mg) : Ok PG w K mg base CX0 2 (a_law_ends K) p_law_ends (spEnds K) := by
  refine Ok.of 1 T.f_law_ends sc_law_ends bi_law_ends (by decide) (fun vs H Q E h => ?_) (fun cdv A outer s H vs Q E hr h => ?_)
  · obtain ⟨_, _, _, rfl, _⟩ := h
    rfl
  · obtain ⟨a, es, st, rfl, ha, le, q⟩ := h
    have nd := sc_law_ends.nd
    refine ⟨_, pss_one (ps_ret (pe_callB call_len_seq (by rfl) T.m_len PySem.boot_len (pa_cons (pe_lc (own := [("end", 2)]) (g := gName 2) rfl nd (pi_list (pv 0)) (blkOk_by (N := n_law_ends) (sc := defScope s_law_ends) (by decide +kernel)) (fun _ _ _ _ _ => pg_name (i := 2) nd rfl (Or.inl rfl)) (fun _ _ _ _ _ => pts_one (pt_cmpR op_ge (pv 2) (pv 1) (nomark _))) (fun _ _ _ _ _ => pv 2)) pa_nil))), ?_⟩
    refine ⟨_, rfl, a, rfl, ⟨_, ha⟩, fun D hD => ?_⟩
    refine lc_list (xs := es.map V.int) (fun i H' => Same H H' ∧ H' D = some (.lst ((fromE (es.take i) st).map V.int))) ⟨.new hD, upd_same⟩ (fun i H' _ z => z.1.seq ha) (fun i x H' hx z => ?_) (fun H' z => ?_)
    · obtain ⟨e, he, rfl⟩ := map_get hx
      obtain ⟨sm, hd⟩ := z
      refine ⟨rfl, _, rfl, _, rfl, _, _, rfl, rfl, _, rfl, ?_⟩
      rw [fromE_take he]
      refine ite2 (fun c => ?_) (fun c => ?_)
      · have c := of_decide_eq_true c
        rw [if_pos c]
        refine ⟨_, rfl, _, hd, by rw [List.length_map, sizeLine_eq]; have := @fromE_len (es.take i) st; rw [List.length_take] at this; omega, fun b o eb => ?_, ?_⟩
        · rw [upd_ne (fun z => by rw [z, hD] at eb; cases eb)]
          exact sm _ _ eb
        · rw [upd_same, List.map_append]; rfl
      · rw [if_neg (by simpa using c)]
        exact ⟨sm, hd⟩
    · obtain ⟨sm, hd⟩ := z
      rw [List.length_map, List.take_length] at hd
      refine ⟨D, _, rfl, .inl (SqL.of hd), ?_⟩
      rw [List.length_map]
      exact q H' sm
def spLFault (K : PySem.W.Frag) : Sp := fun vs H Q _ => ∃ (a : Addr) (es : List Int) (n gap : Int), vs = [.ref a, .int n, .int gap] ∧ SqL K H a (es.map V.int) ∧ es.length ≤ 1000 ∧
  (faultOf gap n none es = none → Q .non H) ∧ (∀ f, faultOf gap n none es = some f → ∀ t, H t = none → Q (.ref t) (upd H t (.tup (tell f))))
theorem ok_law_fault (T : Tx K mg) : Ok PG w K mg base CX0 2 (a_law_fault K) p_law_fault (spLFault K) := by
  refine Ok.of 1 T.f_law_fault sc_law_fault bi_law_fault (by decide) (fun vs H Q E h => ?_) (fun cdv A outer s H vs Q E hr h => ?_)
  · obtain ⟨_, _, _, _, rfl, _⟩ := h
    rfl
  · obtain ⟨a, es, n, gap, rfl, ha, le, q0, q1⟩ := h
    have nd := sc_law_fault.nd
    refine ⟨_, pss_cons (ps_for (passX rfl) rfl (pi_range1 rfl T.m_range (pa_cons (pe_callB call_len_seq (by rfl) T.m_len PySem.boot_len (pa_cons (pv 0) pa_nil)) pa_nil)) (pg_name (i := 3) nd rfl (.inl rfl))
        (pss_cons (ps_if (pt_not (pt_chain op_le op_le pe_int (pe_ix ix_list (pv 0) (pv 3) (fun _ _ => rfl)) (pv 1))) (pss_one (ps_ret (pe_tup (pa_cons pe_str (pa_cons (pe_ix ix_list (pv 0) (pv 3) (fun _ _ => rfl)) pa_nil))))) pss_nil)
          (pss_one (ps_if (PW.pt (pw_and (pt_cmpR op_gt (pv 3) pe_int (nomark _)) (pw_and1 (pt_cmpR op_le (pe_op op_sub (pe_ix ix_list (pv 0) (pv 3) (fun _ _ => rfl)) (pe_ix ix_list (pv 0) (pe_op op_sub (pv 3) pe_int) (fun _ _ => rfl))) (pv 2) (nomark _))))) (pss_one (ps_ret (pe_tup (pa_cons pe_str (pa_cons (pe_ix ix_list (pv 0) (pe_op op_sub (pv 3) pe_int) (fun _ _ => rfl)) (pa_cons (pe_ix ix_list (pv 0) (pv 3) (fun _ _ => rfl)) pa_nil)))))) pss_nil))))
      (pss_one (ps_ret pe_non)), ?_⟩
    refine ⟨_, rfl, a, _, rfl, .inl ha, _, rfl, by omega, by rw [List.length_map]; omega, ?_⟩
    refine for_range (lo := 0) (n := (es.map V.int).length) (fun i σ H' => ∃ x3, σ = [some (.ref a), some (.int n), some (.int gap), x3] ∧ H' = H ∧ faultOf gap n (pre es i) (es.drop i) = faultOf gap n none es) ⟨_, rfl, rfl, rfl⟩ ?_ ?_
    · rintro i σ H' hi ⟨x3, rfl, rfl, hb⟩
      rw [List.length_map] at hi
      rw [Int.zero_add]
      have he : es[i]? = some es[i] := List.getElem?_eq_getElem hi
      generalize es[i] = e at he
      obtain ⟨b1, b2, b3⟩ := fault_step hb he
      have hm : (es.map V.int)[i]? = some (V.int e) := by rw [List.getElem?_map, he]; rfl
      refine ⟨_, rfl, _, rfl, a, _, _, _, rfl, rfl, ha, atI_nat hm, _, _, rfl, rfl, _, rfl, ite2 (fun cc => ?_) (fun cc => ?_)⟩
      · refine ⟨_, rfl, _, _, rfl, rfl, _, rfl, ite2 (fun d => ?_) (fun d => ?_)⟩
        · exact ⟨_, rfl, _, rfl, a, _, _, _, rfl, rfl, ha, atI_nat hm, by show 2 ≤ sizeLine; decide, fun x hx => q1 _ (b1 (fun y => by simp [y.2] at d)) x hx⟩
        · have cc : 1 ≤ e ∧ e ≤ n := ⟨of_decide_eq_true cc, by simpa using d⟩
          refine ⟨_, rfl, _, _, rfl, rfl, _, rfl, ite2 (fun i0 => ?_) (fun i0 => ?_)⟩
          · have i0 := of_decide_eq_true i0
            obtain ⟨j, rfl⟩ : ∃ j : Nat, i = j + 1 := ⟨i - 1, by omega⟩
            have hj : j < es.length := by omega
            have hm1 : (es.map V.int)[j]? = some (V.int es[j]) := by rw [List.getElem?_map, List.getElem?_eq_getElem hj]; rfl
            obtain ⟨n1, n2⟩ := b3 cc j es[j] rfl (List.getElem?_eq_getElem hj)
            have at1 : atI (es.map V.int) (((j + 1 : Nat) : Int) - 1) = some (V.int es[j]) := by rw [show ((j + 1 : Nat) : Int) - 1 = (j : Nat) by omega]; exact atI_nat hm1
            refine ⟨_, rfl, _, rfl, a, _, _, _, rfl, rfl, ha, atI_nat hm, _, rfl, _, rfl, _, _, rfl, rfl, a, _, _, _, rfl, rfl, ha, at1, _, _, rfl, rfl, _, rfl, _, _, rfl, rfl, _, rfl, ite2 (fun d => ?_) (fun d => ?_)⟩
            · refine ⟨_, rfl, _, rfl, _, _, rfl, rfl, a, _, _, _, rfl, rfl, ha, at1, _, rfl, _, rfl, a, _, _, _, rfl, rfl, ha, atI_nat hm, by show 3 ≤ sizeLine; decide, fun x hx => ?_⟩
              exact q1 _ (n1 (of_decide_eq_true d)) x hx
            · exact ⟨_, rfl, rfl, n2 (by simpa using d)⟩
          · have i0 : i = 0 := by simpa using i0
            exact ⟨_, rfl, rfl, b2 cc i0⟩
      · refine ⟨_, rfl, iteT ?_⟩
        exact ⟨_, rfl, _, rfl, a, _, _, _, rfl, rfl, ha, atI_nat hm, by show 2 ≤ sizeLine; decide, fun x hx => q1 _ (b1 (fun y => cc (decide_eq_true y.1))) x hx⟩
    · rintro σ H' ⟨x3, rfl, rfl, hb⟩
      rw [List.length_map] at hb
      exact q0 (fault_end hb)
end
end K10

set_option maxRecDepth 100000
set_option maxHeartbeats 8000000
namespace K10
open PySem PySem.Spec PyProof.Rows L2
section
variable {w : World} {K : PySem.W.Frag} {mg : Str → Option Value} {base : Heap}
/-- what holds of a house's parts -/
structure PB (days starts : List Int) (gap : Nat) : Prop where
  ld : days.length ≤ 60
  ls : starts.length ≤ 30
  bd : ∀ x ∈ days, 0 ≤ x ∧ x ≤ 30
  bs : ∀ x ∈ starts, 1 ≤ x ∧ x ≤ (days.length : Int) + 1
  lg : gap ≤ 60
def spHouse (K : PySem.W.Frag) : Sp := fun vs H Q _ => ∃ (p : Addr) (st : List V), vs = [.ref p] ∧ H p = some (.lst st) ∧ PoolOk st ∧
  ∀ H' (l d t : Addr) days starts (gap : Nat) st', But p H H' → H' p = some (.lst st') → PoolOk st' → l ≠ p → d ≠ p → t ≠ p → H' l = some (.lst [.ref d, .ref t, .int (gap : Nat)]) → H' d = some (.lst (days.map V.int)) → H' t = some (.lst (starts.map V.int)) → PB days starts gap → Q (.ref l) H'
theorem ok_law_house (T : Tx K mg) : Ok PG w K mg base CX0 5 (a_law_house K) p_law_house (spHouse K) := by
  refine Ok.of 4 T.f_law_house sc_law_house bi_law_house (by decide) (fun vs H Q E h => ?_) (fun cdv A outer s H vs Q E hr h => ?_)
  · obtain ⟨_, _, rfl, _⟩ := h
    rfl
  · obtain ⟨p, st, rfl, hp, ok, q⟩ := h
    have nd := sc_law_house.nd
    refine ⟨_, pss_cons (ps_set (i := 1) nd rfl (.inl rfl) (pe_lst (pa_cons pe_int (pa_cons pe_int (pa_cons pe_int pa_nil)))))
      (pss_cons (ps_if (pt_cmpR op_eq (pc (ok_law_draw T) (hr.mono (by decide)) T.g_law_draw pass0 (pa_cons (pv 0) (pa_cons pe_int pa_nil))) pe_int (nomark _)) (pss_one (ps_set (i := 1) nd rfl (.inl rfl) (pe_lst (pa_cons pe_int (pa_cons pe_int (pa_cons pe_int pa_nil)))))) pss_nil)
      (pss_cons (ps_set (i := 2) nd rfl (.inl rfl) (pc (ok_law_size T) (hr.mono (by decide)) T.g_law_size pass0 (pa_cons (pv 0) (pa_cons (pe_ix ix_list (pv 1) pe_int (fun _ _ => rfl)) pa_nil))))
      (pss_cons (ps_set (i := 3) nd rfl (.inl rfl) (pc (ok_law_size T) (hr.mono (by decide)) T.g_law_size pass0 (pa_cons (pv 0) (pa_cons (pe_ix ix_list (pv 1) pe_int (fun _ _ => rfl)) pa_nil))))
      (pss_cons (ps_set (i := 4) nd rfl (.inl rfl) (pc (ok_law_draw T) (hr.mono (by decide)) T.g_law_draw pass0 (pa_cons (pv 0) (pa_cons (pe_ix ix_list (pv 1) pe_int (fun _ _ => rfl)) pa_nil))))
      (pss_cons (ps_set (i := 5) nd rfl (.inl rfl) (pc (ok_law_comings T) (hr.mono (by decide)) T.g_law_comings pass0 (pa_cons (pv 0) (pa_cons (pv 3) (pa_cons (pv 2) pa_nil)))))
      (pss_one (ps_ret (pe_lst (pa_cons (pc (ok_law_wants T) hr T.g_law_wants pass0 (pa_cons (pv 0) (pa_cons (pv 2) (pa_cons pe_int pa_nil)))) (pa_cons (pv 5) (pa_cons (pv 4) pa_nil))))))))))), ?_⟩
    refine seqQ (fun σ' H' => ∃ l, σ' = [some (.ref p), some (.ref l), none, none, none, none] ∧ But p H H' ∧ l ≠ p ∧ H' p = some (.lst st) ∧ H' l = some (.lst [.int 12, .int 4, .int 6])) (fun σ' H0 z => ?_) (fun next => ⟨by show 3 ≤ sizeLine; decide, fun l hl => next _ _ ⟨l, rfl, .of (.new hl), (fun z => by rw [z, hp] at hl; cases hl), Same.new hl _ _ hp, upd_same⟩⟩)
    obtain ⟨l0, rfl, b0, nl0, hp0, hl0⟩ := z
    refine seqQ (fun σ' H' => ∃ l, ∃ sz : List Int, ∃ st', σ' = [some (.ref p), some (.ref l), none, none, none, none] ∧ But p H H' ∧ l ≠ p ∧ H' p = some (.lst st') ∧ PoolOk st' ∧ H' l = some (.lst (sz.map V.int)) ∧ ∃ s0 s1 s2, sz = [s0, s1, s2] ∧ 0 < s0 ∧ s0 ≤ 60 ∧ 0 < s1 ∧ s1 ≤ 30 ∧ 0 < s2 ∧ s2 ≤ 61) (fun σ' H1 z => ?_) (fun next => ?_)
    · obtain ⟨l, sz, st1, rfl, b1, nl, hp1, ok1, hl1, s0, s1, s2, rfl, z0, z1, z2, z3, z4, z5⟩ := z
      refine ⟨_, rfl, _, rfl, l, _, _, _, rfl, rfl, SqL.of hl1, rfl, p, st1, s0, rfl, z0, by omega, hp1, ok1, fun nights H2 st2 hn b2 hp2 ok2 => ?_⟩
      have hl2 := b2 _ _ nl hl1
      refine ⟨_, rfl, _, rfl, l, _, _, _, rfl, rfl, SqL.of hl2, rfl, p, st2, s1, rfl, z2, by omega, hp2, ok2, fun people H3 st3 hpe b3 hp3 ok3 => ?_⟩
      have hl3 := b3 _ _ nl hl2
      refine ⟨_, rfl, _, rfl, l, _, _, _, rfl, rfl, SqL.of hl3, rfl, p, st3, s2, rfl, z4, Nat.lt_trans (show s2.natAbs < 2 ^ 10 by omega) (by decide), hp3, ok3, fun gv st4 g0 g1 ok4 => ?_⟩
      obtain ⟨gap, rfl⟩ : ∃ g : Nat, gv = (g : Nat) := ⟨gv.toNat, by omega⟩
      have b4 := ((b1.trans b2).trans b3).trans (But.set (o := .lst st4))
      have hp4 : upd H3 p (.lst st4) p = some (.lst st4) := upd_same
      generalize upd H3 p (.lst st4) = H4 at b4 hp4 ⊢
      refine ⟨_, rfl, _, rfl, _, rfl, p, st4, people, nights, rfl, hpe.1, by omega, hn.1, by omega, hp4, ok4, fun H5 t starts st5 b5 hp5 ok5 ht0 ht ⟨lt, bt⟩ => ?_⟩
      have ntp : t ≠ p := fun z => by rw [z, hp4] at ht0; cases ht0
      refine ⟨_, rfl, _, rfl, p, st5, nights, 3, rfl, hn.1, by omega, by decide, by decide, hp5, ok5, fun H8 d days st8 b8 hp8 ok8 hd0 hd lnd bd => ?_⟩
      have ndp : d ≠ p := fun z => by rw [z, hp5] at hd0; cases hd0
      refine ⟨_, rfl, _, rfl, by show 3 ≤ sizeLine; decide, fun r hrr => ?_⟩
      have nrp : r ≠ p := fun z => by rw [z, hp8] at hrr; cases hrr
      exact q _ r d t days starts gap st8 (((b4.trans b5).trans b8).trans (.of (.new hrr))) (Same.new hrr _ _ hp8) ok8 nrp ndp ntp upd_same (Same.new hrr _ _ hd) (Same.new hrr _ _ (b8 _ _ ntp ht)) ⟨by omega, by omega, fun x hx => by have := bd x hx; omega, fun x hx => by have := bt x hx; omega, by omega⟩
    · refine ⟨_, rfl, p, st, 10, rfl, by decide, by decide, hp0, ok, fun v st1 _ _ ok1 => ⟨rfl, _, rfl, ite2 (fun _ => ?_) (fun _ => ?_)⟩⟩
      · refine ⟨by show 3 ≤ sizeLine; decide, fun l hl => ?_⟩
        exact next _ _ ⟨l, [60, 30, 61], st1, rfl, (b0.trans .set).trans (.of (.new hl)), (fun z => by rw [z, upd_same] at hl; cases hl), Same.new hl _ _ upd_same, ok1, upd_same, _, _, _, rfl, by decide, by decide, by decide, by decide, by decide, by decide⟩
      · exact next _ _ ⟨l0, [12, 4, 6], st1, rfl, b0.trans .set, nl0, upd_same, ok1, by rw [upd_ne nl0]; exact hl0, _, _, _, rfl, by decide, by decide, by decide, by decide, by decide, by decide⟩
def spOdd : Sp := fun vs H Q _ => ∃ (p : Addr) (st : List V) (n : Int), vs = [.ref p, .int n] ∧ 0 ≤ n ∧ n ≤ 60 ∧ H p = some (.lst st) ∧ PoolOk st ∧ NewNum p H (fun _ => True) Q
theorem ok_law_odd_end (T : Tx K mg) : Ok PG w K mg base CX0 3 (a_law_odd_end K) p_law_odd_end spOdd := by
  refine Ok.of 2 T.f_law_odd_end sc_law_odd_end bi_law_odd_end (by decide) (fun vs H Q E h => ?_) (fun cdv A outer s H vs Q E hr h => ?_)
  · obtain ⟨_, _, _, rfl, _⟩ := h
    rfl
  · obtain ⟨p, st, n, rfl, n0, n1, hp, ok, q⟩ := h
    have nd := sc_law_odd_end.nd
    refine ⟨_, pss_cons (ps_set (i := 2) nd rfl (.inl rfl) (pc (ok_law_draw T) hr T.g_law_draw pass0 (pa_cons (pv 0) (pa_cons pe_int pa_nil))))
      (pss_cons (ps_if (pt_cmpR op_lt (pv 2) pe_int (nomark _)) (pss_one (ps_ret (pe_ix ix_list (pe_lst (pa_cons pe_int (pa_cons (pe_op op_add (pv 1) pe_int) (pa_cons (pe_un un_neg pe_int) pa_nil)))) (pv 2) (fun _ _ => rfl)))) pss_nil)
      (pss_cons (ps_if (pt_cmpR op_eq (pv 2) pe_int (nomark _)) (pss_one (ps_ret (pe_op op_sub (pe_op op_pow pe_int pe_int) (pc (ok_law_draw T) hr T.g_law_draw pass0 (pa_cons (pv 0) (pa_cons (pe_op op_add (pe_op op_mul pe_int (pe_op op_pow pe_int pe_int)) pe_int) pa_nil)))))) pss_nil)
      (pss_one (ps_ret (pe_op op_add pe_int (pc (ok_law_draw T) hr T.g_law_draw pass0 (pa_cons (pv 0) (pa_cons (pe_op op_add (pv 1) pe_int) pa_nil)))))))), ?_⟩
    refine ⟨_, rfl, p, st, 8, rfl, by decide, by decide, hp, ok, fun v st1 v0 v1 ok1 => ?_⟩
    refine ⟨_, rfl, _, _, rfl, rfl, _, rfl, ite2 (fun c => ?_) (fun c => ?_)⟩
    · have hv : v < 3 := of_decide_eq_true c
      refine ⟨_, rfl, _, _, rfl, rfl, 3, rfl, by show 3 ≤ sizeLine; decide, fun l hl => ?_⟩
      have hpl : p ≠ l := fun z => by rw [← z, upd_same] at hl; cases hl
      have fin2 : ∀ x : Int, ∀ o, Q (.int x) (upd (upd H p (.lst st1)) l o) := fun x o => q x _ st1 trivial (But.set.trans (.of (.new hl))) (by rw [upd_ne hpl, upd_same]) ok1
      have hc : v = 0 ∨ v = 1 ∨ v = 2 := by omega
      rcases hc with rfl | rfl | rfl <;> exact ⟨_, rfl, l, _, _, _, rfl, rfl, SqL.of upd_same, rfl, fin2 _ _⟩
    · refine ⟨_, rfl, rfl, _, rfl, ite2 (fun c => ?_) (fun c => ?_)⟩
      · refine ⟨_, _, rfl, rfl, ⟨by decide, by decide, by decide⟩, _, rfl, _, _, rfl, rfl, ⟨by decide, by decide, by decide⟩, _, _, rfl, rfl, .inl ⟨by decide, by decide⟩, _, _, rfl, rfl, p, st1, _, rfl, by decide, by decide, upd_same, ok1, fun u st2 _ _ ok2 => ?_⟩
        exact ⟨_, _, rfl, rfl, q _ _ st2 trivial (But.set.trans .set) upd_same ok2⟩
      · refine ⟨_, rfl, _, rfl, _, _, rfl, rfl, p, st1, n + 1, rfl, by omega, Nat.lt_trans (show _ < 2 ^ 10 by omega) (by decide), upd_same, ok1, fun u st2 _ _ ok2 => ?_⟩
        exact ⟨_, _, rfl, rfl, q _ _ st2 trivial (But.set.trans .set) upd_same ok2⟩
end
end K10

set_option maxRecDepth 100000
set_option maxHeartbeats 8000000
namespace K10
open PySem PySem.Spec PyProof.Rows L2
section
variable {w : World} {K : PySem.W.Frag} {mg : Str → Option Value} {base : Heap}
def spDrawn : Sp := fun vs H Q _ => ∃ (p : Addr) (st : List V) (n gap : Int), vs = [.ref p, .int n, .int gap] ∧ 0 ≤ n ∧ n ≤ 60 ∧ H p = some (.lst st) ∧ PoolOk st ∧ NewRow p H (fun es => es.length ≤ 100) Q
theorem ok_law_drawn_ends (T : Tx K mg) : Ok PG w K mg base CX0 4 (a_law_drawn_ends K) p_law_drawn_ends spDrawn := by
  refine Ok.of 3 T.f_law_drawn_ends sc_law_drawn_ends bi_law_drawn_ends (by decide) (fun vs H Q E h => ?_) (fun cdv A outer s H vs Q E hr h => ?_)
  · obtain ⟨_, _, _, _, rfl, _⟩ := h
    rfl
  · obtain ⟨p, st, n, gap, rfl, n0, n1, hp, ok, q⟩ := h
    have nd := sc_law_drawn_ends.nd
    refine ⟨_, pss_cons (ps_if (pt_cmpR op_eq (pc (ok_law_draw T) (hr.mono (by decide)) T.g_law_draw pass0 (pa_cons (pv 0) (pa_cons pe_int pa_nil))) pe_int (nomark _)) (pss_cons (ps_set (i := 3) nd rfl (.inl rfl) (pc (ok_law_draw T) (hr.mono (by decide)) T.g_law_draw pass0 (pa_cons (pv 0) (pa_cons pe_int pa_nil))))
        (pss_cons (ps_if (pt_cmpR op_eq (pv 3) pe_int (nomark _)) (pss_one (ps_set (i := 3) nd rfl (.inl rfl) (pc (ok_law_draw T) (hr.mono (by decide)) T.g_law_draw pass0 (pa_cons (pv 0) (pa_cons pe_int pa_nil))))) pss_nil)
        (pss_one (ps_ret (pe_lc (own := [("place", 4)]) (g := gName 4) (tt := tYes) rfl nd (pi_range1 rfl T.m_range (pa_cons (pv 3) pa_nil)) (blkOk_by (N := n_law_drawn_ends) (sc := defScope s_law_drawn_ends) (by decide +kernel)) (fun _ _ _ _ _ => pg_name (i := 4) nd rfl (Or.inl rfl)) (fun _ _ _ _ _ => pts_nil) (fun _ _ _ _ _ => pc (ok_law_odd_end T) (hr.mono (by decide)) T.g_law_odd_end pass0 (pa_cons (pv 0) (pa_cons (pv 1) pa_nil)))))))) pss_nil)
      (pss_cons (ps_set (i := 5) nd rfl (.inl rfl) (pe_lst pa_nil))
      (pss_cons (ps_for (passX rfl) rfl (pi_range2 rfl T.m_range (pa_cons pe_int (pa_cons (pe_op op_add (pv 1) pe_int) pa_nil))) (pg_name (i := 6) nd rfl (.inl rfl))
        (pss_one (ps_if (PW.pt (pw_and (PW.pt (pw_or (pt_cmpR op_eq (pe_callB call_len_seq (by rfl) T.m_len PySem.boot_len (pa_cons (pv 5) pa_nil)) pe_int (nomark _)) (pw_or1 (pt_cmpR op_gt (pe_op op_sub (pv 6) (pe_ix ix_list (pv 5) (pe_un un_neg pe_int) (fun _ _ => rfl))) (pv 2) (nomark _))))) (pw_and1 (pt_cmpR op_gt (pc (ok_law_draw T) (hr.mono (by decide)) T.g_law_draw pass0 (pa_cons (pv 0) (pa_cons pe_int pa_nil))) pe_int (nomark _))))) (pss_one (ps_expr (pe_bm PySem.F.plainAttrs_list PySem.F.slot_list_append PySem.F.type_list_append mt_append (pv 5) (pa_cons (pv 6) pa_nil)))) pss_nil)))
      (pss_cons (ps_if (pt_cmpR op_eq (pc (ok_law_draw T) (hr.mono (by decide)) T.g_law_draw pass0 (pa_cons (pv 0) (pa_cons pe_int pa_nil))) pe_int (nomark _)) (pss_cons (ps_set (i := 4) nd rfl (.inl rfl) (pc (ok_law_draw T) (hr.mono (by decide)) T.g_law_draw pass0 (pa_cons (pv 0) (pa_cons (pe_op op_add (pe_callB call_len_seq (by rfl) T.m_len PySem.boot_len (pa_cons (pv 5) pa_nil)) pe_int) pa_nil))))
        (pss_one (ps_set (i := 5) nd rfl (.inl rfl) (pe_op op_cat (pe_op op_cat (pe_slice sl_list (pv 5) po_none (po_some (pv 4))) (pe_lst (pa_cons (pc (ok_law_odd_end T) (hr.mono (by decide)) T.g_law_odd_end pass0 (pa_cons (pv 0) (pa_cons (pv 1) pa_nil))) pa_nil))) (pe_slice sl_list (pv 5) (po_some (pv 4)) po_none))))) pss_nil)
      (pss_one (ps_ret (pv 5)))))), ?_⟩
    refine ⟨_, rfl, p, st, 6, rfl, by decide, by decide, hp, ok, fun v st1 _ _ ok1 => ⟨rfl, _, rfl, ite2 (fun _ => ?_) (fun _ => ?_)⟩⟩
    · refine seqQ (fun σ' H' => ∃ m st', σ' = [some (.ref p), some (.int n), some (.int gap), some (.int m), none, none, none] ∧ 0 ≤ m ∧ m < 7 ∧ But p H H' ∧ H' p = some (.lst st') ∧ PoolOk st' ∧ (∀ l, H' l = none → H l = none)) (fun σ' H1 z => ?_) (fun next => ⟨_, rfl, p, st1, 7, rfl, by decide, by decide, upd_same, ok1, fun m st2 m0 m1 ok2 => next _ _ ⟨m, st2, rfl, m0, m1, But.set.trans .set, upd_same, ok2, fun l hl => ?_⟩⟩)
      · obtain ⟨m, st2, rfl, m0, m1, b1, hp1, ok2, fr⟩ := z
        refine seqQ (fun σ' H' => ∃ m st', σ' = [some (.ref p), some (.int n), some (.int gap), some (.int m), none, none, none] ∧ 0 ≤ m ∧ m < 64 ∧ But p H H' ∧ H' p = some (.lst st') ∧ PoolOk st' ∧ (∀ l, H' l = none → H l = none)) (fun σ' H2 z => ?_) (fun next => ?_)
        · obtain ⟨m, st3, rfl, m0, m1, b2, hp2, ok3, fr⟩ := z
          refine ⟨_, rfl, m, rfl, by omega, by omega, fun D hD => ?_⟩
          have nDp : D ≠ p := fun z => by rw [z, hp2] at hD; cases hD
          refine lc_range (lo := 0) (n := m.toNat) (fun i H' => ∃ (es : List Int) (st' : List V), But p H H' ∧ H' p = some (.lst st') ∧ PoolOk st' ∧ H' D = some (.lst (es.map V.int)) ∧ es.length = i) ⟨[], st3, b2.trans (.of (.new hD)), Same.new hD _ _ hp2, ok3, upd_same, rfl⟩ (fun i H' hi z => ?_) (fun H' z => ?_)
          · obtain ⟨es, st', bt, hp', ok', hl, hn⟩ := z
            refine ⟨rfl, yesT ?_⟩
            refine ⟨_, rfl, _, rfl, p, st', n, rfl, n0, n1, hp', ok', fun u H3 st4 _ b4 hp4 ok4 => ?_⟩
            refine ⟨_, b4 _ _ nDp hl, by rw [List.length_map, sizeLine_eq]; omega, es ++ [u], st4, fun b o nb eb => ?_, by rw [upd_ne (Ne.symm nDp)]; exact hp4, ok4, by rw [upd_same, List.map_append]; rfl, by rw [List.length_append, hn]; rfl⟩
            rw [upd_ne (fun z => by rw [z, fr D hD] at eb; cases eb)]
            exact b4 _ _ nb (bt _ _ nb eb)
          · obtain ⟨es, st', bt, hp', ok', hl, hn⟩ := z
            exact q H' D es st' bt hp' ok' (fr D hD) hl (by omega)
        · refine ⟨_, rfl, rfl, _, rfl, ite2 (fun _ => ?_) (fun _ => ?_)⟩
          · refine ⟨_, rfl, p, st2, 64, rfl, by decide, by decide, hp1, ok2, fun m' st3 m0' m1' ok3 => next _ _ ⟨m', st3, rfl, m0', m1', b1.trans .set, upd_same, ok3, fun l hl => ?_⟩⟩
            by_cases e : l = p
            · rw [e, upd_same] at hl; cases hl
            · rw [upd_ne e] at hl; exact fr l hl
          · exact next _ _ ⟨m, st2, rfl, m0, by omega, b1, hp1, ok2, fr⟩
      · by_cases e : l = p
        · rw [e, upd_same] at hl; cases hl
        · rwa [upd_ne e, upd_ne e] at hl
    · refine ⟨by show 0 ≤ sizeLine; decide, fun L hL => ?_⟩
      have nLp : L ≠ p := fun z => by rw [z, upd_same] at hL; cases hL
      have hL0 : H L = none := by rwa [upd_ne nLp] at hL
      refine ⟨_, rfl, _, _, rfl, rfl, _, _, rfl, ⟨by omega, by omega, by omega, by omega⟩, ?_⟩
      have hN : (n + 1 - 1).toNat = n.toNat := by omega
      refine for_range (lo := 1) (n := (n + 1 - 1).toNat) (fun i σ H' => ∃ (x6 : Option V) (es : List Int) (st' : List V), σ = [some (.ref p), some (.int n), some (.int gap), none, none, some (.ref L), x6] ∧ But p H H' ∧ H' p = some (.lst st') ∧ PoolOk st' ∧ H' L = some (.lst (es.map V.int)) ∧ es.length ≤ i) ⟨none, [], st1, rfl, But.set.trans (.of (.new hL)), Same.new hL _ _ upd_same, ok1, upd_same, Nat.le_refl _⟩ ?_ ?_
      · rintro i σ H' hi ⟨x6, es, st', rfl, bt, hp', ok', hl, hn⟩
        rw [hN] at hi
        have app : ∀ (x : Int) (st2 : List V), PoolOk st2 → ∃ (x6 : Option V) (es' : List Int) (st' : List V), [some (V.ref p), some (.int n), some (.int gap), none, none, some (.ref L), some (.int (1 + ((i : Nat) : Int)))] = [some (V.ref p), some (.int n), some (.int gap), none, none, some (.ref L), x6] ∧ But p H (upd (upd H' p (.lst st2)) L (.lst ((es.map V.int) ++ [.int x]))) ∧ (upd (upd H' p (.lst st2)) L (.lst ((es.map V.int) ++ [.int x]))) p = some (.lst st') ∧ PoolOk st' ∧ (upd (upd H' p (.lst st2)) L (.lst ((es.map V.int) ++ [.int x]))) L = some (.lst (es'.map V.int)) ∧ es'.length ≤ i + 1 := fun x st2 ok2 => by
          refine ⟨_, es ++ [x], st2, rfl, fun b o nb eb => ?_, by rw [upd_ne (Ne.symm nLp), upd_same], ok2, by rw [upd_same, List.map_append]; rfl, by rw [List.length_append]; show _ + 1 ≤ _; omega⟩
          rw [upd_ne (fun z => by rw [z, hL0] at eb; cases eb), upd_ne nb]
          exact bt _ _ nb eb
        have stay : ∀ (st2 : List V) H2, But p H' H2 → H2 p = some (.lst st2) → PoolOk st2 → ∃ (x6 : Option V) (es : List Int) (st' : List V), [some (V.ref p), some (.int n), some (.int gap), none, none, some (.ref L), some (.int (1 + ((i : Nat) : Int)))] = [some (V.ref p), some (.int n), some (.int gap), none, none, some (.ref L), x6] ∧ But p H H2 ∧ H2 p = some (.lst st') ∧ PoolOk st' ∧ H2 L = some (.lst (es.map V.int)) ∧ es.length ≤ i + 1 := fun st2 H2 b2 hp2 ok2 => ⟨_, es, st2, rfl, bt.trans b2, hp2, ok2, b2 _ _ nLp hl, by omega⟩
        have lz : (es.map V.int).length < sizeLine := by rw [List.length_map, sizeLine_eq]; omega
        refine ⟨_, rfl, L, _, rfl, .inl (SqL.of hl), rfl, _, rfl, ite2 (fun c => iteT ?_) (fun c => ?_)⟩
        · refine ⟨_, rfl, p, st', 3, rfl, by decide, by decide, hp', ok', fun u st2 _ _ ok2 => ⟨_, _, rfl, rfl, _, rfl, ite2 (fun _ => ?_) (fun _ => ?_)⟩⟩
          · have hl2 : upd H' p (.lst st2) L = some (.lst (es.map V.int)) := by rw [upd_ne nLp]; exact hl
            exact ⟨_, rfl, .inl ⟨rfl, _, SqL.of hl2⟩, _, rfl, L, _, _, rfl, rfl, hl2, lz, app _ st2 ok2⟩
          · exact stay st2 _ .set upd_same ok2
        · have c : es.length ≠ 0 := fun z => c (by rw [List.length_map, z]; rfl)
          have hz : (es.map V.int)[(es.map V.int).length - 1]? = some (V.int (es.getD (es.length - 1) 0)) := by
            rw [List.length_map, List.getElem?_map, List.getD_eq_getElem?_getD, List.getElem?_eq_getElem (by omega)]; rfl
          refine ⟨_, rfl, _, rfl, 1, rfl, L, _, _, _, rfl, rfl, SqL.of hl, atI_neg1 hz, _, _, rfl, rfl, _, rfl, _, _, rfl, rfl, _, rfl, ite2 (fun _ => ?_) (fun _ => ?_)⟩
          · refine ⟨_, rfl, p, st', 3, rfl, by decide, by decide, hp', ok', fun u st2 _ _ ok2 => ⟨_, _, rfl, rfl, _, rfl, ite2 (fun _ => ?_) (fun _ => ?_)⟩⟩
            · have hl2 : upd H' p (.lst st2) L = some (.lst (es.map V.int)) := by rw [upd_ne nLp]; exact hl
              exact ⟨_, rfl, .inl ⟨rfl, _, SqL.of hl2⟩, _, rfl, L, _, _, rfl, rfl, hl2, lz, app _ st2 ok2⟩
            · exact stay st2 _ .set upd_same ok2
          · exact stay st' _ (.refl _ _) hp' ok'
      · rintro σ H' ⟨x6, es, st', rfl, bt, hp', ok', hl, hn⟩
        rw [hN] at hn
        refine ⟨_, rfl, p, st', 3, rfl, by decide, by decide, hp', ok', fun u st2 _ _ ok2 => ⟨rfl, _, rfl, ite2 (fun _ => ?_) (fun _ => ?_)⟩⟩
        · have hl2 : upd H' p (.lst st2) L = some (.lst (es.map V.int)) := by rw [upd_ne nLp]; exact hl
          have b2 : But p H (upd H' p (.lst st2)) := bt.trans .set
          refine ⟨_, rfl, _, rfl, L, _, rfl, .inl (SqL.of hl2), _, _, rfl, rfl, p, st2, _, rfl, by omega, by rw [List.length_map]; exact Nat.lt_trans (show _ < 2 ^ 10 by omega) (by decide), upd_same, ok2, fun pl st3 p0 p1 ok3 => ?_⟩
          rw [upd_upd]
          obtain ⟨j, rfl⟩ : ∃ j : Nat, pl = (j : Nat) := ⟨pl.toNat, by omega⟩
          have b3 : But p H (upd H' p (.lst st3)) := bt.trans .set
          have hl3 : upd H' p (.lst st3) L = some (.lst (es.map V.int)) := by rw [upd_ne nLp]; exact hl
          have hp3 : upd H' p (.lst st3) p = some (.lst st3) := upd_same
          generalize upd H' p (.lst st3) = H3 at b3 hl3 hp3 ⊢
          refine ⟨_, rfl, _, rfl, _, rfl, L, _, rfl, SqL.of hl3, fun D hD => ?_⟩
          rw [cutTo]
          have nDp : D ≠ p := fun z => by rw [z, hp3] at hD; cases hD
          have s4 := Same.new (o := .lst ((es.map V.int).take j)) hD
          refine ⟨_, rfl, _, rfl, p, st3, n, rfl, n0, n1, s4 _ _ hp3, ok3, fun v H5 st5 _ b5 hp5 ok5 => ?_⟩
          have hD5 := b5 _ _ nDp (show upd H3 D (.lst ((es.map V.int).take j)) D = _ from upd_same)
          have hl5 := b5 _ _ nLp (s4 _ _ hl3)
          have b35 := (b3.trans (.of s4)).trans b5
          refine ⟨by show 1 ≤ sizeLine; decide, fun B hB => ?_⟩
          have s6 := Same.new (o := .lst [V.int v]) hB
          refine ⟨D, B, _, _, rfl, rfl, s6 _ _ hD5, upd_same, by rw [List.length_take, List.length_map, sizeLine_eq]; show _ + 1 ≤ _; omega, fun C hC => ?_⟩
          have s7 := s6.new' (o := .lst ((es.map V.int).take j ++ [V.int v])) hC
          refine ⟨_, rfl, _, rfl, _, rfl, L, _, rfl, SqL.of (s7 _ _ hl5), fun F hF => ?_⟩
          rw [cutFrom]
          have s8 := s7.new' (o := .lst ((es.map V.int).drop j)) hF
          refine ⟨C, F, _, _, rfl, rfl, Same.new hF _ _ upd_same, upd_same, by rw [List.length_append, List.length_take, List.length_drop, List.length_map, sizeLine_eq]; show _ + 1 + _ ≤ _; omega, fun R hR => ?_⟩
          have s9 := s8.new' (o := .lst (((es.map V.int).take j ++ [V.int v]) ++ (es.map V.int).drop j)) hR
          refine ⟨_, rfl, ?_⟩
          refine q _ R (es.take j ++ [v] ++ es.drop j) st5 (b35.trans (.of s9)) (s9 _ _ hp5) ok5 ?_ (by rw [upd_same]; simp [List.map_take, List.map_drop]) (by show (es.take j ++ [v] ++ es.drop j).length ≤ 100; rw [List.length_append, List.length_append, List.length_take, List.length_drop]; show _ + 1 + _ ≤ _; omega)
          have hR5 := s8.free hR
          cases e : H R with
          | none => rfl
          | some o =>
            by_cases c : R = p
            · rw [c, hp5] at hR5; cases hR5
            · rw [b35 R o c e] at hR5; cases hR5
        · exact ⟨_, rfl, q _ L es st2 (bt.trans .set) upd_same ok2 hL0 (by rw [upd_ne nLp]; exact hl) (by omega)⟩
end
end K10

set_option maxRecDepth 100000
set_option maxHeartbeats 8000000
namespace K10
open PySem PySem.Spec PyProof.Rows L2
inductive Due where
  | bad (f : Option Int × Int)
  | noP (n : Int)
  | nights (row : List Int)
  | rows (gap : Int) (es : List Int)
  | num (k : Nat)
def dueOf (way gap : Int) (days starts es : List Int) (person : Int) : Due :=
  match faultOf gap days.length none es with
  | some f => .bad f
  | none => if way = 0 then .nights (outs gap es days.length) else if way = 1 then .rows gap es else if 0 ≤ person ∧ person < starts.length then .num (fromE es (starts.getD person.toNat 0)).length else .noP person
section
variable {way gap person : Int} {days starts es : List Int}
theorem due_bad {f : Option Int × Int} (h : faultOf gap days.length none es = some f) : dueOf way gap days starts es person = .bad f := by unfold dueOf; rw [h]
theorem due_0 (h : faultOf gap days.length none es = none) : dueOf 0 gap days starts es person = .nights (outs gap es days.length) := by unfold dueOf; rw [h]; rfl
theorem due_1 (h : faultOf gap days.length none es = none) : dueOf 1 gap days starts es person = .rows gap es := by unfold dueOf; rw [h]; rfl
theorem due_n (h : faultOf gap days.length none es = none) (c0 : way ≠ 0) (c1 : way ≠ 1) (c : ¬ (0 ≤ person ∧ person < starts.length)) : dueOf way gap days starts es person = .noP person := by
  unfold dueOf; rw [h]; show (if _ then _ else _) = _; rw [if_neg c0, if_neg c1, if_neg c]
theorem due_2 (h : faultOf gap days.length none es = none) (c0 : way ≠ 0) (c1 : way ≠ 1) (c : 0 ≤ person ∧ person < starts.length) : dueOf way gap days starts es person = .num (fromE es (starts.getD person.toNat 0)).length := by
  unfold dueOf; rw [h]; show (if _ then _ else _) = _; rw [if_neg c0, if_neg c1, if_pos c]
end
/-- the tuple that tells it; N: what is said of the told row's place -/
def IsDue (K : PySem.W.Frag) (N : Addr → Prop) (H : Hp) (t : Addr) : Due → Prop
  | .bad f => ∃ u, SqT K H t [.str "BadCover", .ref u, .bl true, .bl false] ∧ SqT K H u (tell f)
  | .noP e => SqT K H t [.str "NoPerson", .int e, .bl true, .bl false]
  | .nights row => ∃ l, SqT K H t [.str "told", .ref l] ∧ H l = some (.lst (row.map V.int)) ∧ N l ∧ row.length ≤ 60
  | .rows gap es => ∃ l xs, SqT K H t [.str "told", .ref l] ∧ H l = some (.lst xs) ∧ Strs K gap H xs es ∧ N l ∧ es.length ≤ 100
  | .num k => SqT K H t [.str "told", .int (k : Nat)]
theorem IsDue.same {K : PySem.W.Frag} {N : Addr → Prop} {H H' : Hp} {t : Addr} {D : Due} (h : IsDue K N H t D) (s : Same H H') : IsDue K N H' t D := by
  cases D with
  | bad f => exact h.elim fun u z => ⟨u, s.seqT z.1, s.seqT z.2⟩
  | noP e => exact s.seqT h
  | nights row =>
    obtain ⟨l, h1, h2, h3, h4⟩ := h
    exact ⟨l, s.seqT h1, s _ _ h2, h3, h4⟩
  | rows gap es =>
    obtain ⟨l, xs, h1, h2, h3, h4, h5⟩ := h
    exact ⟨l, xs, s.seqT h1, s _ _ h2, h3.same s, h4, h5⟩
  | num k => exact s.seqT h
/-- at p the parts of a house -/
def Part (K : PySem.W.Frag) (H : Hp) (p : Addr) (days starts : List Int) (gap : Nat) : Prop := ∃ d t, SqL K H p [.ref d, .ref t, .int (gap : Nat)] ∧ SqL K H d (days.map V.int) ∧ SqL K H t (starts.map V.int)
theorem Part.same {K : PySem.W.Frag} {H H' : Hp} {p : Addr} {days starts : List Int} {gap : Nat} (h : Part K H p days starts gap) (s : Same H H') : Part K H' p days starts gap := let ⟨d, t, a, b, c⟩ := h; ⟨d, t, s.seq a, s.seq b, s.seq c⟩
section
variable {w : World} {K : PySem.W.Frag} {mg : Str → Option Value} {base : Heap}
def spDue (K : PySem.W.Frag) : Sp := fun vs H Q _ => ∃ (p a : Addr) (days starts es : List Int) (gap : Nat) (way person : Int), vs = [.int way, .ref p, .ref a, .int person] ∧ Part K H p days starts gap ∧ SqL K H a (es.map V.int) ∧ PB days starts gap ∧ es.length ≤ 100 ∧
  ∀ H' t, Same H H' → IsDue K (fun l => H l = none) H' t (dueOf way gap days starts es person) → Q (.ref t) H'
theorem ok_law_due (T : Tx K mg) : Ok PG w K mg base CX0 3 (a_law_due K) p_law_due (spDue K) := by
  refine Ok.of 2 T.f_law_due sc_law_due bi_law_due (by decide) (fun vs H Q E h => ?_) (fun cdv A outer s H vs Q E hr h => ?_)
  · obtain ⟨_, _, _, _, _, _, _, _, rfl, _⟩ := h
    rfl
  · obtain ⟨p, a, days, starts, es, gap, way, person, rfl, hP, ha, B, le, q⟩ := h
    obtain ⟨d, t, g1, g2, g3⟩ := id hP
    have nd := sc_law_due.nd
    refine ⟨_, pss_cons (ps_set (i := 4) nd rfl (.inl rfl) (pe_callB call_len_seq (by rfl) T.m_len PySem.boot_len (pa_cons (pe_ix ix_list (pv 1) pe_int (fun _ _ => rfl)) pa_nil)))
      (pss_cons (ps_set (i := 5) nd rfl (.inl rfl) (pc (ok_law_fault T) hr T.g_law_fault pass0 (pa_cons (pv 2) (pa_cons (pv 4) (pa_cons (pe_ix ix_list (pv 1) pe_int (fun _ _ => rfl)) pa_nil)))))
      (pss_cons (ps_if (pt_cmpR op_notN (pv 5) pe_non (nomark _)) (pss_one (ps_ret (pe_tup (pa_cons pe_str (pa_cons (pv 5) (pa_cons pe_bl (pa_cons pe_bl pa_nil))))))) pss_nil)
      (pss_cons (ps_if (pt_cmpR op_eq (pv 0) pe_int (nomark _)) (pss_one (ps_ret (pe_tup (pa_cons pe_str (pa_cons (pe_lc (own := [("night", 6)]) (g := gName 6) rfl nd (pi_range2 rfl T.m_range (pa_cons pe_int (pa_cons (pe_op op_add (pv 4) pe_int) pa_nil))) (blkOk_by (N := n_law_due) (sc := defScope s_law_due) (by decide +kernel)) (fun _ _ _ _ _ => pg_name (i := 6) nd rfl (Or.inl rfl)) (fun _ _ _ _ _ => pts_one (pt_not (pt_val (pc (ok_law_inside T) hr T.g_law_inside pass0 (pa_cons (pv 2) (pa_cons (pe_ix (r := rIxL K) (ta := tVar 1) (tb := tC (V.int 2)) ix_list (pv 1) pe_int (fun _ _ => rfl)) (pa_cons (pv 6) pa_nil))))))) (fun _ _ _ _ _ => pv 6)) pa_nil))))) pss_nil)
      (pss_cons (ps_if (pt_cmpR op_eq (pv 0) pe_int (nomark _)) (pss_one (ps_ret (pe_tup (pa_cons pe_str (pa_cons (pe_lc (own := [("end", 7)]) (g := gName 7) (tt := tYes) rfl nd (pi_list (pv 2)) (blkOk_by (N := n_law_due) (sc := defScope s_law_due) (by decide +kernel)) (fun _ _ _ _ _ => pg_name (i := 7) nd rfl (Or.inl rfl)) (fun _ _ _ _ _ => pts_nil) (fun _ _ _ _ _ => pe_tup (pa_cons (pe_callB (call_max2 rfl) (by rfl) T.m_max (by decide +kernel) (pa_cons pe_int (pa_cons (pe_op op_sub (pv 7) (pe_ix (r := rIxL K) (ta := tVar 1) (tb := tC (V.int 2)) ix_list (pv 1) pe_int (fun _ _ => rfl))) pa_nil))) (pa_cons (pv 7) pa_nil)))) pa_nil))))) pss_nil)
      (pss_cons (ps_if (pt_not (pt_chain op_le op_lt pe_int (pv 3) (pe_callB call_len_seq (by rfl) T.m_len PySem.boot_len (pa_cons (pe_ix ix_list (pv 1) pe_int (fun _ _ => rfl)) pa_nil)))) (pss_one (ps_ret (pe_tup (pa_cons pe_str (pa_cons (pv 3) (pa_cons pe_bl (pa_cons pe_bl pa_nil))))))) pss_nil)
      (pss_one (ps_ret (pe_tup (pa_cons pe_str (pa_cons (pc (ok_law_ends T) hr T.g_law_ends pass0 (pa_cons (pv 2) (pa_cons (pe_ix ix_list (pe_ix ix_list (pv 1) pe_int (fun _ _ => rfl)) (pv 3) (fun _ _ => rfl)) pa_nil))) pa_nil)))))))))), ?_⟩
    have four : 4 ≤ sizeLine := by decide
    have two : 2 ≤ sizeLine := by decide
    refine ⟨_, rfl, p, _, _, _, rfl, rfl, g1, rfl, d, _, rfl, .inl g2, ?_⟩
    rw [List.length_map]
    refine ⟨_, rfl, _, rfl, _, rfl, p, _, _, _, rfl, rfl, g1, rfl, a, es, days.length, gap, rfl, ha, by omega, fun z => ?_, fun f z u hu => ?_⟩
    · refine ⟨_, rfl, rfl, _, rfl, iteF ?_⟩
      refine ⟨_, rfl, rfl, _, rfl, ite2 (fun c => ?_) (fun c => ?_)⟩
      · obtain rfl : way = 0 := by simpa using c
        refine ⟨_, rfl, _, _, rfl, rfl, _, _, rfl, ⟨by omega, by omega, by have := B.ld; omega, by have := B.ld; omega⟩, fun D hD => ?_⟩
        have hN : ((days.length : Int) + 1 - 1).toNat = days.length := by omega
        refine lc_range (lo := 1) (n := ((days.length : Int) + 1 - 1).toNat) (fun i H' => Same H H' ∧ H' D = some (.lst ((outs gap es i).map V.int))) ⟨.new hD, upd_same⟩ (fun i H' hi z => ?_) (fun H' y => ?_)
        · rw [hN] at hi
          obtain ⟨sm, hd⟩ := z
          refine ⟨rfl, _, rfl, _, rfl, p, _, _, _, rfl, rfl, sm.seq g1, rfl, _, rfl, a, es, gap, _, rfl, sm.seq ha, _, rfl, ?_⟩
          rw [outs_succ]
          refine ite2 (fun c => ?_) (fun c => ?_)
          · have c : inside gap es (1 + ((i : Nat) : Int)) = false := by simpa using c
            rw [c]
            refine ⟨_, rfl, _, hd, by rw [List.length_map, sizeLine_eq]; have := @outs_len gap es i; have := B.ld; omega, fun b o e => ?_, ?_⟩
            · rw [upd_ne (fun z => by rw [z, hD] at e; cases e)]
              exact sm _ _ e
            · rw [upd_same, if_neg (by decide), List.map_append]; rfl
          · have c : inside gap es (1 + ((i : Nat) : Int)) = true := by simpa using c
            rw [c, if_pos rfl]
            exact ⟨sm, hd⟩
        · obtain ⟨sm, hd⟩ := y
          rw [hN] at hd
          refine ⟨two, fun x hx => q _ x (sm.new' hx) ?_⟩
          rw [due_0 z]
          exact ⟨D, SqT.of upd_same, Same.new hx _ _ hd, hD, Nat.le_trans outs_len B.ld⟩
      · refine ⟨_, rfl, rfl, _, rfl, ite2 (fun c1 => ?_) (fun c1 => ?_)⟩
        · obtain rfl : way = 1 := by simpa using c1
          refine ⟨_, rfl, a, rfl, ⟨_, ha⟩, fun D hD => ?_⟩
          refine lc_list (xs := es.map V.int) (fun i H' => ∃ xs, Same H H' ∧ H' D = some (.lst xs) ∧ Strs K gap H' xs (es.take i)) ⟨[], .new hD, upd_same, by rw [List.take_zero]; exact .nil⟩ (fun i H' _ z => z.elim fun xs z => z.1.seq ha) (fun i x H' hx z => ?_) (fun H' y => ?_)
          · obtain ⟨e, he, rfl⟩ := map_get hx
            obtain ⟨xs, sm, hd, st⟩ := z
            have hi : i < es.length := (List.getElem?_eq_some_iff.mp he).1
            refine ⟨rfl, yesT ?_⟩
            refine ⟨_, rfl, _, rfl, p, _, _, _, rfl, rfl, sm.seq g1, rfl, _, _, rfl, rfl, _, _, rfl, _, rfl, two, fun tt htt => ?_⟩
            have s2 : Same H' (upd H' tt (.tup [.int (firstOf gap e), .int e])) := .new htt
            refine ⟨xs, s2 _ _ hd, by rw [st.1, List.length_take, sizeLine_eq]; omega, xs ++ [.ref tt], fun b o eb => ?_, upd_same, ?_⟩
            · rw [upd_ne (fun z => by rw [z, hD] at eb; cases eb)]
              exact s2 _ _ (sm _ _ eb)
            · rw [List.take_succ, he]
              have k := (st.same s2).snoc (t := tt) (e := e) (SqT.of upd_same)
              exact ⟨k.1, fun j x hj => let ⟨t', a, b⟩ := k.2 j x hj; ⟨t', a, (But.set (p := D)).seqT (s2 _ _ hd) b⟩⟩
          · obtain ⟨xs, sm, hd, st⟩ := y
            rw [List.length_map, List.take_length] at st
            refine ⟨two, fun x hx => q _ x (sm.new' hx) ?_⟩
            rw [due_1 z]
            exact ⟨D, xs, SqT.of upd_same, Same.new hx _ _ hd, st.same (.new hx), hD, le⟩
        · have c : way ≠ 0 := by simpa using c
          have c1 : way ≠ 1 := by simpa using c1
          have no : ¬ (0 ≤ person ∧ person < (starts.length : Int)) → ∀ x, H x = none → Q (.ref x) (upd H x (.tup [.str "NoPerson", .int person, .bl true, .bl false])) := fun cc x hx => by
            refine q _ x (.new hx) ?_
            rw [due_n z c c1 cc]
            exact SqT.of upd_same
          refine ⟨_, rfl, _, _, rfl, rfl, _, rfl, ite2 (fun d1 => ?_) (fun d1 => ?_)⟩
          · refine ⟨_, rfl, p, _, _, _, rfl, rfl, g1, rfl, t, _, rfl, .inl g3, _, _, rfl, rfl, _, rfl, ?_⟩
            rw [List.length_map]
            refine ite2 (fun d2 => ?_) (fun d2 => ?_)
            · exact ⟨_, rfl, four, fun x hx => no (fun y => by simp [y.2] at d2) x hx⟩
            · have cc : 0 ≤ person ∧ person < (starts.length : Int) := ⟨of_decide_eq_true d1, by simpa using d2⟩
              obtain ⟨k, rfl⟩ : ∃ k : Nat, person = (k : Nat) := ⟨person.toNat, by omega⟩
              have hk : k < starts.length := by omega
              have hm : (starts.map V.int)[k]? = some (V.int (starts.getD k 0)) := by rw [List.getElem?_map, List.getD_eq_getElem?_getD, List.getElem?_eq_getElem hk]; rfl
              refine ⟨_, rfl, _, rfl, p, _, _, _, rfl, rfl, g1, rfl, _, rfl, t, _, _, _, rfl, rfl, g3, atI_nat hm, a, es, _, rfl, ha, by omega, fun H' sm => ?_⟩
              refine ⟨two, fun x hx => q _ x (sm.new' hx) ?_⟩
              rw [due_2 z c c1 cc]
              exact SqT.of upd_same
          · exact ⟨_, rfl, iteT ⟨_, rfl, four, fun x hx => no (fun y => d1 (decide_eq_true y.1)) x hx⟩⟩
    · refine ⟨_, rfl, rfl, _, rfl, iteT ?_⟩
      refine ⟨_, rfl, four, fun x hx => q _ x ((Same.new hu).new' hx) ?_⟩
      rw [due_bad z]
      exact ⟨u, SqT.of upd_same, (Same.new hx).seqT (SqT.of upd_same)⟩
end
end K10

set_option maxRecDepth 100000
set_option maxHeartbeats 8000000
namespace K10
open PySem PySem.Spec PyProof.Rows L2
section
variable {w : World} {K : PySem.W.Frag} {mg : Str → Option Value} {base : Heap}
def spTry (K : PySem.W.Frag) : Sp := fun vs H Q _ => ∃ (h c : Addr) (days starts es : List Int) (gap : Nat) (way person : Int), vs = [.int way, .ref h, .ref c, .int person] ∧ IsH K H h days starts (gap : Nat) ∧ IsC K H c es ∧ PB days starts gap ∧ es.length ≤ 100 ∧
  ∀ H' t, Same H H' → IsDue K (fun l => H l = none) H' t (dueOf way gap days starts es person) → Q (.ref t) H'
theorem ok_law_try (T : Tx K mg) : Ok PG w K mg base CX0 10 (a_law_try K) p_law_try (spTry K) := by
  refine Ok.of 9 T.f_law_try sc_law_try bi_law_try (by decide) (fun vs H Q E h => ?_) (fun cdv A outer s H vs Q E hr h => ?_)
  · obtain ⟨_, _, _, _, _, _, _, _, rfl, _⟩ := h
    rfl
  · obtain ⟨h, c, days, starts, es, gap, way, person, rfl, hh, hc, B, le, q⟩ := h
    have nd := sc_law_try.nd
    refine ⟨_, pss_cons (ps_set (i := 4) nd rfl (.inl rfl) pe_non)
      (pss_cons (ps_set (i := 5) nd rfl (.inl rfl) (pe_tup (pa_cons pe_str pa_nil)))
      (pss_cons (ps_try_any rfl rfl nd takes0
          (fun W pn xe tk _ => (pss_one (ps_if (pt_cmpR op_eq (pv 0) pe_int (nomark _)) (pss_one (ps_set (i := 4) nd rfl (.inl rfl) (pcS (ok_outside_nights T) (hr.mono (by decide)) T.g_outside_nights (fun σ => passAt tk σ) (pa_cons (pv 1) (pa_cons (pv 2) pa_nil))))) (pss_one (ps_if (pt_cmpR op_eq (pv 0) pe_int (nomark _)) (pss_one (ps_set (i := 4) nd rfl (.inl rfl) (pcS (ok_stretches_of T) (hr.mono (by decide)) T.g_stretches_of (fun σ => passAt tk σ) (pa_cons (pv 1) (pa_cons (pv 2) pa_nil))))) (pss_one (ps_set (i := 4) nd rfl (.inl rfl) (pcS (ok_ends_from T) (hr.mono (by decide)) T.g_ends_from (fun σ => passAt tk σ) (pa_cons (pv 1) (pa_cons (pv 2) (pa_cons (pv 3) pa_nil)))))))))))
          (.as (i := 6) ⟨rfl, by decide, .inl T.e_BadCover.gC⟩ rfl rfl (fun a oe cls d pn hz hf => (pss_one (ps_set (i := 5) nd rfl (.inl rfl) (pe_tup (pa_cons pe_str (pa_cons (pe_xf T.xBadCover.1 T.nBadCover_fault hz hf (pv 6)) (pa_cons (pe_and (pe_callB (call_isD T.xBadCover.2 hz hf) (by rfl) T.m_isinstance (by decide +kernel) (pa_cons (pv 6) (pa_cons (pgC T.gNightsError) pa_nil))) (pe_one (pe_callB (call_isD T.xBadCover.2 hz hf) (by rfl) T.m_isinstance (by decide +kernel) (pa_cons (pv 6) (pa_cons (pe_bltn (v := .ty "ValueError") (by rfl) T.m_ValueError (by decide +kernel) rfl) pa_nil))))) (pa_cons (pe_callB (call_isD T.xBadCover.2 hz hf) (by rfl) T.m_isinstance (by decide +kernel) (pa_cons (pv 6) (pa_cons (pgC T.e_NoPerson.gC) pa_nil))) pa_nil))))))))
          (.as (i := 6) ⟨rfl, by decide, .inl T.e_NoPerson.gC⟩ rfl rfl (fun a oe cls d pn hz hf => (pss_one (ps_set (i := 5) nd rfl (.inl rfl) (pe_tup (pa_cons pe_str (pa_cons (pe_xf T.xNoPerson.1 T.nNoPerson_person hz hf (pv 6)) (pa_cons (pe_and (pe_callB (call_isD T.xNoPerson.2 hz hf) (by rfl) T.m_isinstance (by decide +kernel) (pa_cons (pv 6) (pa_cons (pgC T.gNightsError) pa_nil))) (pe_one (pe_callB (call_isD T.xNoPerson.2 hz hf) (by rfl) T.m_isinstance (by decide +kernel) (pa_cons (pv 6) (pa_cons (pe_bltn (v := .ty "ValueError") (by rfl) T.m_ValueError (by decide +kernel) rfl) pa_nil))))) (pa_cons pe_bl pa_nil))))))))
          .nil)))
      (pss_cons (ps_if (pt_cmpR op_eq (pe_ix ix_tup (pv 5) pe_int (fun _ _ => rfl)) pe_str (nomark _)) (pss_one (ps_ret (pe_tup (pa_cons pe_str (pa_cons (pv 4) pa_nil))))) pss_nil)
      (pss_one (ps_ret (pv 5)))))), ?_⟩
    refine ⟨by show 1 ≤ sizeLine; decide, fun wd hwd => ?_⟩
    have s1 : Same H (upd H wd (.tup [.str "told"])) := .new hwd
    refine ⟨_, rfl, rfl, _, rfl, ite2 (fun c0 => ?_) (fun c0 => ?_)⟩
    · obtain rfl : way = 0 := by simpa using c0
      refine ⟨_, rfl, _, rfl, h, c, days, starts, es, gap, rfl, hh.same s1, hc.same s1, by omega, fun g eg => ?_, fun z H' l sm hl0 hl => ?_⟩
      · intro H' u su hu H2 d s2 hd
        have s3 : Same H (upd H2 d (xV u)) := ((s1.trans su).trans s2).new' hd
        have hu3 : SqT K (upd H2 d (xV u)) u (tell g) := (s2.new' hd).seqT hu
        refine ⟨true, T.mBadCover_BadCover, fun _ x hx => ?_, fun z => nomatch z⟩
        refine ⟨_, rfl, rfl, rfl, d, _, _, rfl, upd_same, rfl, ?_⟩
        refine ⟨_, rfl, rfl, _, _, true, d, _, rfl, fun u r => r, rfl, upd_same, T.kBadCover_NightsError, _, rfl, yep rfl ?_⟩
        refine ⟨_, rfl, rfl, _, _, true, d, _, rfl, fun u r => r, rfl, upd_same, T.kBadCover_ValueError, ?_⟩
        refine ⟨_, rfl, rfl, _, _, false, d, _, rfl, fun u r => r, rfl, upd_same, T.kBadCover_NoPerson, ?_⟩
        refine ⟨by show 4 ≤ sizeLine; decide, fun w2 hw2 => ?_⟩
        refine ⟨_, rfl, w2, _, _, _, rfl, rfl, SqT.of upd_same, rfl, rfl, _, rfl, nope (by decide) ?_⟩
        refine ⟨_, rfl, q _ w2 (s3.new' hw2) ?_⟩
        rw [due_bad eg]
        exact ⟨u, SqT.of upd_same, (Same.new hw2).seqT hu3⟩
      · refine ⟨_, rfl, wd, _, _, _, rfl, rfl, sm.seqT (SqT.of upd_same), rfl, rfl, _, rfl, yep (by decide) ?_⟩
        refine ⟨_, rfl, by show 2 ≤ sizeLine; decide, fun x hx => ?_⟩
        refine q _ x ((s1.trans sm).new' hx) ?_
        rw [due_0 z]
        exact ⟨l, SqT.of upd_same, Same.new hx _ _ hl, s1.free hl0, Nat.le_trans outs_len B.ld⟩
    · have c0 : way ≠ 0 := by simpa using c0
      refine ⟨_, rfl, rfl, _, rfl, ite2 (fun c1 => ?_) (fun c1 => ?_)⟩
      · obtain rfl : way = 1 := by simpa using c1
        refine ⟨_, rfl, _, rfl, h, c, days, starts, es, gap, rfl, hh.same s1, hc.same s1, by omega, fun g eg => ?_, fun z H' l xs sm hl0 hl st => ?_⟩
        · intro H' u su hu H2 d s2 hd
          have s3 : Same H (upd H2 d (xV u)) := ((s1.trans su).trans s2).new' hd
          have hu3 : SqT K (upd H2 d (xV u)) u (tell g) := (s2.new' hd).seqT hu
          refine ⟨true, T.mBadCover_BadCover, fun _ x hx => ?_, fun z => nomatch z⟩
          refine ⟨_, rfl, rfl, rfl, d, _, _, rfl, upd_same, rfl, ?_⟩
          refine ⟨_, rfl, rfl, _, _, true, d, _, rfl, fun u r => r, rfl, upd_same, T.kBadCover_NightsError, _, rfl, yep rfl ?_⟩
          refine ⟨_, rfl, rfl, _, _, true, d, _, rfl, fun u r => r, rfl, upd_same, T.kBadCover_ValueError, ?_⟩
          refine ⟨_, rfl, rfl, _, _, false, d, _, rfl, fun u r => r, rfl, upd_same, T.kBadCover_NoPerson, ?_⟩
          refine ⟨by show 4 ≤ sizeLine; decide, fun w2 hw2 => ?_⟩
          refine ⟨_, rfl, w2, _, _, _, rfl, rfl, SqT.of upd_same, rfl, rfl, _, rfl, nope (by decide) ?_⟩
          refine ⟨_, rfl, q _ w2 (s3.new' hw2) ?_⟩
          rw [due_bad eg]
          exact ⟨u, SqT.of upd_same, (Same.new hw2).seqT hu3⟩
        · refine ⟨_, rfl, wd, _, _, _, rfl, rfl, sm.seqT (SqT.of upd_same), rfl, rfl, _, rfl, yep (by decide) ?_⟩
          refine ⟨_, rfl, by show 2 ≤ sizeLine; decide, fun x hx => ?_⟩
          refine q _ x ((s1.trans sm).new' hx) ?_
          rw [due_1 z]
          exact ⟨l, xs, SqT.of upd_same, Same.new hx _ _ hl, st.same (.new hx), s1.free hl0, le⟩
      · have c1 : way ≠ 1 := by simpa using c1
        refine ⟨_, rfl, _, rfl, _, rfl, h, c, days, starts, es, gap, person, rfl, hh.same s1, hc.same s1, by omega, fun g eg => ?_, fun z => ⟨fun cc => ?_, fun cc H' sm => ?_⟩⟩
        · intro H' u su hu H2 d s2 hd
          have s3 : Same H (upd H2 d (xV u)) := ((s1.trans su).trans s2).new' hd
          have hu3 : SqT K (upd H2 d (xV u)) u (tell g) := (s2.new' hd).seqT hu
          refine ⟨true, T.mBadCover_BadCover, fun _ x hx => ?_, fun z => nomatch z⟩
          refine ⟨_, rfl, rfl, rfl, d, _, _, rfl, upd_same, rfl, ?_⟩
          refine ⟨_, rfl, rfl, _, _, true, d, _, rfl, fun u r => r, rfl, upd_same, T.kBadCover_NightsError, _, rfl, yep rfl ?_⟩
          refine ⟨_, rfl, rfl, _, _, true, d, _, rfl, fun u r => r, rfl, upd_same, T.kBadCover_ValueError, ?_⟩
          refine ⟨_, rfl, rfl, _, _, false, d, _, rfl, fun u r => r, rfl, upd_same, T.kBadCover_NoPerson, ?_⟩
          refine ⟨by show 4 ≤ sizeLine; decide, fun w2 hw2 => ?_⟩
          refine ⟨_, rfl, w2, _, _, _, rfl, rfl, SqT.of upd_same, rfl, rfl, _, rfl, nope (by decide) ?_⟩
          refine ⟨_, rfl, q _ w2 (s3.new' hw2) ?_⟩
          rw [due_bad eg]
          exact ⟨u, SqT.of upd_same, (Same.new hw2).seqT hu3⟩
        · intro H' d sm hd
          have s2 : Same H (upd H' d (xP person)) := (s1.trans sm).new' hd
          refine ⟨false, T.mNoPerson_BadCover, ⟨fun z => Bool.noConfusion z, fun _ => ⟨true, T.mNoPerson_NoPerson, fun _ x hx => ?_, fun z => nomatch z⟩⟩⟩
          refine ⟨_, rfl, rfl, rfl, d, _, _, rfl, upd_same, rfl, ?_⟩
          refine ⟨_, rfl, rfl, _, _, true, d, _, rfl, fun u r => r, rfl, upd_same, T.kNoPerson_NightsError, _, rfl, yep rfl ?_⟩
          refine ⟨_, rfl, rfl, _, _, true, d, _, rfl, fun u r => r, rfl, upd_same, T.kNoPerson_ValueError, ?_⟩
          refine ⟨by show 4 ≤ sizeLine; decide, fun w2 hw2 => ?_⟩
          refine ⟨_, rfl, w2, _, _, _, rfl, rfl, SqT.of upd_same, rfl, rfl, _, rfl, nope (by decide) ?_⟩
          refine ⟨_, rfl, q _ w2 (s2.new' hw2) ?_⟩
          rw [due_n z c0 c1 cc]
          exact SqT.of upd_same
        · refine ⟨_, rfl, wd, _, _, _, rfl, rfl, sm.seqT (SqT.of upd_same), rfl, rfl, _, rfl, yep (by decide) ?_⟩
          refine ⟨_, rfl, by show 2 ≤ sizeLine; decide, fun x hx => ?_⟩
          refine q _ x ((s1.trans sm).new' hx) ?_
          rw [due_2 z c0 c1 cc]
          exact SqT.of upd_same
end
end K10

set_option maxRecDepth 100000
set_option maxHeartbeats 8000000
namespace K10
open PySem PySem.Spec PyProof.Rows L2
theorem rg_most {N g : Nat} (hN : N ≤ 60) (hg : g ≤ 60) : RgC 1 ((N : Int) + 1) ((g : Int) + 1) (most g N).toNat ∧ 0 ≤ most g N ∧ most g N ≤ 61 := by
  have d0 : 0 ≤ ((N : Int) + g) / ((g : Int) + 1) := Int.ediv_nonneg (by omega) (by omega)
  have d1 : ((N : Int) + g) / ((g : Int) + 1) ≤ 61 := by
    have : ((N : Int) + g) / ((g : Int) + 1) < 62 := Int.ediv_lt_of_lt_mul (by omega) (by omega)
    omega
  have e : Builtin.Range.rangeSize 1 ((N : Int) + 1) ((g : Int) + 1) = ((N : Int) + g) / ((g : Int) + 1) := by
    unfold Builtin.Range.rangeSize
    rw [if_pos (by omega)]
    split
    · have e1 : (N : Int) + g = (((N : Int) + 1) - 1 - 1) + 1 * ((g : Int) + 1) := by omega
      rw [e1, Int.add_mul_ediv_right _ _ (by omega)]
    · have e0 : N = 0 := by omega
      subst e0
      exact (Int.ediv_eq_zero_of_lt (by omega) (by omega)).symm
  refine ⟨⟨by omega, by omega, ?_, ?_⟩, d0, d1⟩
  · unfold Builtin.Range.small
    rw [e]
    simp only [Builtin.Range.rangeFitsLong, Bool.and_eq_true, Bool.or_eq_true, decide_eq_true_eq, beq_iff_eq, show ((g : Int) + 1) > 0 by omega, if_true]
    omega
  · rw [e]
    unfold most
    omega
theorem eqd_atoms {K : PySem.W.Frag} {n : Nat} {H : Hp} {a b : Addr} {xs : List V} (h1 : SqT K H a xs) (h2 : SqT K H b xs) (l : xs.length ≤ 1000) (at' : ∀ x ∈ xs, Atom x) : Eqd K (n + 1) H (.ref a) (.ref b) :=
  .inr ⟨a, b, _, _, rfl, rfl, .inl ⟨h1, h2⟩, rfl, sL l, fun i u v e1 e2 => by rw [e1] at e2; cases e2; exact .atom (at' _ (List.mem_of_getElem? e1))⟩
theorem tell_atoms (f : Option Int × Int) : ∀ x ∈ tell f, Atom x := by
  obtain ⟨o, e⟩ := f
  cases o <;> intro x hx <;> simp [tell] at hx
  · rcases hx with rfl | rfl <;> constructor
  · rcases hx with rfl | rfl | rfl <;> constructor
theorem tell_len (f : Option Int × Int) : (tell f).length ≤ 1000 := by
  obtain ⟨o, e⟩ := f
  cases o
  · show 2 ≤ 1000; decide
  · show 3 ≤ 1000; decide
theorem eqd_due {K : PySem.W.Frag} {H : Hp} {N M : Addr → Prop} {a b : Addr} {D : Due} (h1 : IsDue K N H a D) (h2 : IsDue K M H b D) : Eqd K 3 H (.ref a) (.ref b) := by
  cases D with
  | noP e => exact eqd_atoms h1 h2 (by show 4 ≤ 1000; decide) (fun x hx => by simp at hx; rcases hx with rfl | rfl | rfl | rfl <;> constructor)
  | num k => exact eqd_atoms h1 h2 (by show 2 ≤ 1000; decide) (fun x hx => by simp at hx; rcases hx with rfl | rfl <;> constructor)
  | bad f =>
    obtain ⟨u, g1, g2⟩ := h1
    obtain ⟨v, k1, k2⟩ := h2
    exact .inr ⟨a, b, _, _, rfl, rfl, .inl ⟨g1, k1⟩, rfl, sL (by show 4 ≤ 1000; decide), fun i x y e1 e2 => by
      match i with
      | 0 => cases e1; cases e2; exact .atom (.str _)
      | 1 => cases e1; cases e2; exact eqd_atoms g2 k2 (tell_len f) (tell_atoms f)
      | 2 => cases e1; cases e2; exact .atom (.bl _)
      | 3 => cases e1; cases e2; exact .atom (.bl _)
      | i + 4 => cases e1⟩
  | nights row =>
    obtain ⟨l, g1, g2, _, g4⟩ := h1
    obtain ⟨m, k1, k2, _, _⟩ := h2
    exact .inr ⟨a, b, _, _, rfl, rfl, .inl ⟨g1, k1⟩, rfl, sL (by show 2 ≤ 1000; decide), fun i u v e1 e2 => by
      match i with
      | 0 => cases e1; cases e2; exact .atom (.str _)
      | 1 => cases e1; cases e2; exact Eqd.row (.inr ⟨SqL.of g2, SqL.of k2⟩) (by omega)
      | i + 2 => cases e1⟩
  | rows gap es =>
    obtain ⟨l, xs, g1, g2, g3, _, g4⟩ := h1
    obtain ⟨m, ys, k1, k2, k3, _, _⟩ := h2
    exact .inr ⟨a, b, _, _, rfl, rfl, .inl ⟨g1, k1⟩, rfl, sL (by show 2 ≤ 1000; decide), fun i u v e1 e2 => by
      match i with
      | 0 => cases e1; cases e2; exact .atom (.str _)
      | 1 =>
        cases e1; cases e2
        exact .inr ⟨l, m, xs, ys, rfl, rfl, .inr ⟨SqL.of g2, SqL.of k2⟩, by rw [g3.1, k3.1], sL (by rw [g3.1]; omega), fun j x y f1 f2 => by
          have hj : j < es.length := by rw [← g3.1]; exact (List.getElem?_eq_some_iff.mp f1).1
          obtain ⟨t1, p1, p2⟩ := g3.2 j _ (List.getElem?_eq_getElem hj)
          obtain ⟨t2, r1, r2⟩ := k3.2 j _ (List.getElem?_eq_getElem hj)
          rw [p1] at f1; rw [r1] at f2
          cases f1; cases f2
          exact eqd_atoms p2 r2 (by show 2 ≤ 1000; decide) (fun x hx => by simp at hx; rcases hx with rfl | rfl <;> constructor)⟩
      | i + 2 => cases e1⟩
section
variable {w : World} {K : PySem.W.Frag} {mg : Str → Option Value} {base : Heap}
def spAsked (K : PySem.W.Frag) : Sp := fun vs H Q _ => ∃ (h p c a : Addr) (days starts es : List Int) (gap : Nat), vs = [.ref h, .ref p, .ref c, .ref a] ∧ IsH K H h days starts (gap : Nat) ∧ Part K H p days starts gap ∧ IsC K H c es ∧ SqL K H a (es.map V.int) ∧ PB days starts gap ∧ es.length ≤ 100 ∧
  ∀ H', Same H H' → Q (.bl true) H'
theorem ok_law_asked (T : Tx K mg) : Ok PG w K mg base CX0 11 (a_law_asked K) p_law_asked (spAsked K) := by
  refine Ok.of 10 T.f_law_asked sc_law_asked bi_law_asked (by decide) (fun vs H Q E h => ?_) (fun cdv A outer s H vs Q E hr h => ?_)
  · obtain ⟨_, _, _, _, _, _, _, _, rfl, _⟩ := h
    rfl
  · obtain ⟨h, p, c, a, days, starts, es, gap, rfl, hh, hP, hc, ha, B, le, q⟩ := h
    obtain ⟨d, t, g1, g2, g3⟩ := id hP
    have nd := sc_law_asked.nd
    refine ⟨_, pss_cons (ps_set (i := 4) nd rfl (.inl rfl) (pc (ok_law_fault T) (hr.mono (by decide)) T.g_law_fault pass0 (pa_cons (pv 3) (pa_cons (pe_callB call_len_seq (by rfl) T.m_len PySem.boot_len (pa_cons (pe_ix ix_list (pv 1) pe_int (fun _ _ => rfl)) pa_nil)) (pa_cons (pe_ix ix_list (pv 1) pe_int (fun _ _ => rfl)) pa_nil)))))
      (pss_cons (ps_if (pt_not (pt_val (pc (ok_law_same T 1) (hr.mono (by decide)) T.g_law_same pass0 (pa_cons (pc (ok_cover_fault T) (hr.mono (by decide)) T.g_cover_fault pass0 (pa_cons (pv 0) (pa_cons (pv 2) pa_nil))) (pa_cons (pv 4) pa_nil))))) (pss_one (ps_ret pe_bl)) pss_nil)
      (pss_cons (ps_for (passX rfl) rfl (pi_range1 rfl T.m_range (pa_cons pe_int pa_nil)) (pg_name (i := 5) nd rfl (.inl rfl))
        (pss_cons (ps_set (i := 6) nd rfl (.inl rfl) (pc (ok_law_try T) hr T.g_law_try pass0 (pa_cons (pv 5) (pa_cons (pv 0) (pa_cons (pv 2) (pa_cons pe_int pa_nil))))))
          (pss_cons (ps_if (pt_not (pt_val (pc (ok_law_same T 3) (hr.mono (by decide)) T.g_law_same pass0 (pa_cons (pv 6) (pa_cons (pc (ok_law_due T) (hr.mono (by decide)) T.g_law_due pass0 (pa_cons (pv 5) (pa_cons (pv 1) (pa_cons (pv 3) (pa_cons pe_int pa_nil))))) pa_nil))))) (pss_one (ps_ret pe_bl)) pss_nil)
          (pss_one (ps_if (pt_cmpR op_eq (pe_ix ix_tup (pv 6) pe_int (fun _ _ => rfl)) pe_str (nomark _)) (pss_cons (ps_set (i := 7) nd rfl (.inl rfl) (pe_ix ix_tup (pv 6) pe_int (fun _ _ => rfl)))
            (pss_one (ps_expr (pe_bm PySem.F.plainAttrs_list PySem.F.slot_list_append PySem.F.type_list_append mt_append (pv 7) (pa_cons pe_int pa_nil))))) pss_nil)))))
      (pss_cons (ps_for (passX rfl) rfl (pi_range2 rfl T.m_range (pa_cons (pe_un un_neg pe_int) (pa_cons (pe_op op_add (pe_callB call_len_seq (by rfl) T.m_len PySem.boot_len (pa_cons (pe_ix ix_list (pv 1) pe_int (fun _ _ => rfl)) pa_nil)) pe_int) pa_nil))) (pg_name (i := 8) nd rfl (.inl rfl))
        (pss_one (ps_if (pt_not (pt_val (pc (ok_law_same T 3) (hr.mono (by decide)) T.g_law_same pass0 (pa_cons (pc (ok_law_try T) hr T.g_law_try pass0 (pa_cons pe_int (pa_cons (pv 0) (pa_cons (pv 2) (pa_cons (pv 8) pa_nil))))) (pa_cons (pc (ok_law_due T) (hr.mono (by decide)) T.g_law_due pass0 (pa_cons pe_int (pa_cons (pv 1) (pa_cons (pv 3) (pa_cons (pv 8) pa_nil))))) pa_nil))))) (pss_one (ps_ret pe_bl)) pss_nil)))
      (pss_cons (ps_set (i := 9) nd rfl (.inl rfl) (pe_callB call_len_seq (by rfl) T.m_len PySem.boot_len (pa_cons (pe_lc (own := [("night", 10)]) (g := gName 10) (tt := tYes) rfl nd (pi_range3 rfl T.m_range (pa_cons pe_int (pa_cons (pe_op op_add (pe_callB call_len_seq (by rfl) T.m_len PySem.boot_len (pa_cons (pe_ix ix_list (pv 1) pe_int (fun _ _ => rfl)) pa_nil)) pe_int) (pa_cons (pe_op op_add (pe_ix ix_list (pv 1) pe_int (fun _ _ => rfl)) pe_int) pa_nil)))) (blkOk_by (N := n_law_asked) (sc := defScope s_law_asked) (by decide +kernel)) (fun _ _ _ _ _ => pg_name (i := 10) nd rfl (Or.inl rfl)) (fun _ _ _ _ _ => pts_nil) (fun _ _ _ _ _ => pv 10)) pa_nil)))
      (pss_one (ps_ret (pe_and (pc (ok_law_same T 0) (hr.mono (by decide)) T.g_law_same pass0 (pa_cons (pc (ok_most_stretches T) (hr.mono (by decide)) T.g_most_stretches pass0 (pa_cons (pv 0) pa_nil)) (pa_cons (pv 9) pa_nil))) (pe_one (pe_or (pe_cmpR op_notN (pv 4) pe_non (nomark _)) (pe_one (pe_cmpR op_le (pe_callB call_len_seq (by rfl) T.m_len PySem.boot_len (pa_cons (pv 3) pa_nil)) (pv 9) (nomark _)))))))))))), ?_⟩
    -- the fault
    refine seqQ (fun σ' H' => ∃ f, σ' = [some (.ref h), some (.ref p), some (.ref c), some (.ref a), some f, none, none, none, none, none, none] ∧ Same H H' ∧ ((faultOf gap days.length none es = none ∧ f = .non) ∨ ∃ g u, faultOf gap days.length none es = some g ∧ f = .ref u ∧ SqT K H' u (tell g))) (fun σ' H1 z => ?_) (fun next => ?_)
    · obtain ⟨f, rfl, s1, hf⟩ := z
      refine seqQ (fun σ' H' => σ' = [some (.ref h), some (.ref p), some (.ref c), some (.ref a), some f, none, none, none, none, none, none] ∧ Same H H' ∧ ((faultOf gap days.length none es = none ∧ f = .non) ∨ ∃ g u, faultOf gap days.length none es = some g ∧ f = .ref u)) (fun σ' H2 z => ?_) (fun next => ?_)
      · obtain ⟨rfl, s2, hf⟩ := z
        refine ⟨2, rfl, by decide, by decide, ?_⟩
        refine for_range (lo := 0) (n := 2) (fun i σ H' => ∃ x5 x6 x7, σ = [some (.ref h), some (.ref p), some (.ref c), some (.ref a), some f, x5, x6, x7, none, none, none] ∧ Same H H') ⟨_, _, _, rfl, s2⟩ ?_ ?_
        · rintro i σ H3 hi ⟨x5, x6, x7, rfl, s3⟩
          rw [Int.zero_add]
          refine ⟨_, rfl, _, rfl, _, rfl, h, c, days, starts, es, gap, (i : Nat), 0, rfl, hh.same s3, hc.same s3, B, le, fun H4 ft s4 hfound => ?_⟩
          have s34 := s3.trans s4
          refine ⟨_, rfl, _, rfl, _, rfl, _, rfl, p, a, days, starts, es, gap, (i : Nat), 0, rfl, hP.same s34, s34.seq ha, B, le, fun H5 dt s5 hdue => ?_⟩
          have s35 := s34.trans s5
          have hfound := hfound.same s5
          refine ⟨_, _, rfl, eqd_due hfound hdue, _, rfl, nope rfl ?_⟩
          have stay : ∀ z, ∃ x5 x6 x7, [some (V.ref h), some (.ref p), some (.ref c), some (.ref a), some f, some (.int ((i : Nat) : Int)), some (.ref ft), z, none, none, none] = [some (V.ref h), some (.ref p), some (.ref c), some (.ref a), some f, x5, x6, x7, none, none, none] ∧ Same H H5 := fun z => ⟨_, _, _, rfl, s35⟩
          have put : ∀ (l : Addr) (o : HO), H3 l = none → ∃ x5 x6 x7, [some (V.ref h), some (.ref p), some (.ref c), some (.ref a), some f, some (.int ((i : Nat) : Int)), some (.ref ft), some (.ref l), none, none, none] = [some (V.ref h), some (.ref p), some (.ref c), some (.ref a), some f, x5, x6, x7, none, none, none] ∧ Same H (upd H5 l o) := fun l o hl => ⟨_, _, _, rfl, fun b x eb => by
            rw [upd_ne (fun z => by rw [z, s3.free hl] at eb; cases eb)]
            exact s35 _ _ eb⟩
          generalize hD : dueOf (i : Nat) gap days starts es 0 = Du at hfound
          cases Du with
          | bad g =>
            obtain ⟨u, k1, k2⟩ := hfound
            exact ⟨_, rfl, ft, _, _, _, rfl, rfl, k1, rfl, rfl, _, rfl, nope (by decide) (stay _)⟩
          | noP n => exact ⟨_, rfl, ft, _, _, _, rfl, rfl, hfound, rfl, rfl, _, rfl, nope (by decide) (stay _)⟩
          | nights row =>
            obtain ⟨l, k1, k2, k3, k4⟩ := hfound
            refine ⟨_, rfl, ft, _, _, _, rfl, rfl, k1, rfl, rfl, _, rfl, yep (by decide) ?_⟩
            refine ⟨_, rfl, ft, _, _, _, rfl, rfl, k1, rfl, ?_⟩
            exact ⟨_, rfl, .inl ⟨rfl, _, SqL.of k2⟩, l, _, _, rfl, rfl, k2, by rw [List.length_map, sizeLine_eq]; omega, put l _ k3⟩
          | rows gg es' =>
            obtain ⟨l, xs, k1, k2, k3, k4, k5⟩ := hfound
            refine ⟨_, rfl, ft, _, _, _, rfl, rfl, k1, rfl, rfl, _, rfl, yep (by decide) ?_⟩
            refine ⟨_, rfl, ft, _, _, _, rfl, rfl, k1, rfl, ?_⟩
            exact ⟨_, rfl, .inl ⟨rfl, _, SqL.of k2⟩, l, _, _, rfl, rfl, k2, by rw [k3.1, sizeLine_eq]; omega, put l _ k4⟩
          | num k =>
            exfalso
            cases e : faultOf gap days.length none es with
            | some g => rw [due_bad e] at hD; cases hD
            | none =>
              match i, hi with
              | 0, _ => rw [show ((0 : Nat) : Int) = 0 from rfl, due_0 e] at hD; cases hD
              | 1, _ => rw [show ((1 : Nat) : Int) = 1 from rfl, due_1 e] at hD; cases hD
        · rintro σ H3 ⟨x5, x6, x7, rfl, s3⟩
          obtain ⟨d0, t0, y1, y2, y3⟩ := hP.same s3
          refine ⟨1, rfl, _, rfl, p, _, _, _, rfl, rfl, y1, rfl, _, _, rfl, .inl y3, _, _, rfl, rfl, _, _, rfl, ⟨by omega, by omega, by omega, by rw [List.length_map]; have := B.ls; omega⟩, ?_⟩
          refine for_range (lo := -1) (n := (((starts.map V.int).length : Int) + 1 - -1).toNat) (fun i σ H' => ∃ x8, σ = [some (.ref h), some (.ref p), some (.ref c), some (.ref a), some f, x5, x6, x7, x8, none, none] ∧ Same H H') ⟨_, rfl, s3⟩ ?_ ?_
          · rintro i σ H4 hi ⟨x8, rfl, s4⟩
            generalize (-1 : Int) + (i : Nat) = k
            refine ⟨_, rfl, _, rfl, _, rfl, h, c, days, starts, es, gap, 2, k, rfl, hh.same s4, hc.same s4, B, le, fun H5 ft s5 hfound => ?_⟩
            have s45 := s4.trans s5
            refine ⟨_, rfl, _, rfl, _, rfl, p, a, days, starts, es, gap, 2, k, rfl, hP.same s45, s45.seq ha, B, le, fun H6 dt s6 hdue => ?_⟩
            exact ⟨_, _, rfl, eqd_due (hfound.same s6) hdue, _, rfl, nope rfl ⟨_, rfl, s45.trans s6⟩⟩
          · rintro σ H4 ⟨x8, rfl, s4⟩
            obtain ⟨d0, t0, y1, y2, y3⟩ := hP.same s4
            obtain ⟨rg, m0, m1⟩ := rg_most B.ld B.lg
            refine ⟨_, rfl, p, _, _, _, rfl, rfl, y1, rfl, _, _, rfl, .inl y2, _, _, rfl, rfl, _, rfl, p, _, _, _, rfl, rfl, y1, rfl, _, _, rfl, rfl, _, _, _, _, rfl, (by rw [List.length_map]; exact rg), fun D hD => ?_⟩
            refine lc_it walk_rangeC (fun i H' => ∃ acc, Same H4 H' ∧ H' D = some (.lst acc) ∧ acc.length = i) ⟨[], .new hD, upd_same, rfl⟩ (fun _ _ _ _ => trivial) (fun i x H' H2 hi z y => ?_) (fun H' z => ?_)
            · obtain ⟨acc, sm, hd, ln⟩ := z
              obtain ⟨rfl, rfl⟩ := y
              refine ⟨rfl, yesT ⟨_, rfl, acc, hd, by rw [sizeLine_eq]; omega, acc ++ [_], fun b o e => ?_, upd_same, by rw [List.length_append, ln]; rfl⟩⟩
              rw [upd_ne (fun z => by rw [z, hD] at e; cases e)]
              exact sm _ _ e
            · obtain ⟨acc, sm, hd, ln⟩ := z
              refine ⟨D, acc, rfl, .inl (SqL.of hd), ?_⟩
              rw [ln, show (((most gap days.length).toNat : Nat) : Int) = most gap days.length by omega]
              have s5 := s4.trans sm
              refine ⟨_, rfl, h, days, starts, gap, rfl, hh.same s5, B.lg, _, rfl, _, _, rfl, .atom (.int _), ?_⟩
              refine ⟨_, rfl, yep rfl ?_⟩
              rcases hf with ⟨ez, rfl⟩ | ⟨g, u, eg, rfl⟩
              · refine ⟨_, rfl, rfl, _, rfl, iteF ?_⟩
                refine ⟨_, rfl, a, _, rfl, .inl (s5.seq ha), _, rfl, _, _, rfl, rfl, ?_⟩
                rw [List.length_map]
                show Q (.bl (decide ((es.length : Int) ≤ most gap days.length))) H'
                rw [decide_eq_true (fault_most (by omega) (by omega) ez)]
                exact q _ s5
              · exact ⟨_, rfl, rfl, _, rfl, iteT (q _ s5)⟩
      · have hh1 := hh.same s1
        rcases hf with ⟨ez, rfl⟩ | ⟨g, u, eg, rfl, hu⟩
        · refine ⟨_, rfl, _, rfl, h, c, days, starts, es, gap, rfl, hh1, hc.same s1, fun _ H2 s2 => ?_, fun g eg => by rw [ez] at eg; cases eg⟩
          exact ⟨_, rfl, _, _, rfl, .atom .non, _, rfl, nope rfl (next _ _ ⟨rfl, s1.trans s2, .inl ⟨ez, rfl⟩⟩)⟩
        · refine ⟨_, rfl, _, rfl, h, c, days, starts, es, gap, rfl, hh1, hc.same s1, fun ez => by (rw [ez] at eg; cases eg), fun g' eg' H2 u2 s2 hu2 => ?_⟩
          rw [eg] at eg'
          cases eg'
          exact ⟨_, rfl, _, _, rfl, eqd_atoms hu2 (s2.seqT hu) (tell_len g) (tell_atoms g), _, rfl, nope rfl (next _ _ ⟨rfl, s1.trans s2, .inr ⟨g, u, eg, rfl⟩⟩)⟩
    · refine ⟨_, rfl, _, rfl, p, _, _, _, rfl, rfl, g1, rfl, d, _, rfl, .inl g2, ?_⟩
      rw [List.length_map]
      refine ⟨_, rfl, p, _, _, _, rfl, rfl, g1, rfl, a, es, days.length, gap, rfl, ha, by omega, fun ez => ?_, fun g eg u hu => ?_⟩
      · exact next _ _ ⟨_, rfl, .refl _, .inl ⟨ez, rfl⟩⟩
      · exact next _ _ ⟨_, rfl, .new hu, .inr ⟨g, u, eg, rfl, SqT.of upd_same⟩⟩
end
end K10

set_option maxRecDepth 100000
set_option maxHeartbeats 8000000
namespace K10
open PySem PySem.Spec PyProof.Rows L2
section
variable {w : World} {K : PySem.W.Frag} {mg : Str → Option Value} {base : Heap}
def spReads (K : PySem.W.Frag) : Sp := fun vs H Q _ => ∃ (c a : Addr) (es : List Int) (n : Int), vs = [.ref c, .ref a, .int n] ∧ IsC K H c es ∧ H a = some (.lst (es.map V.int)) ∧ es.length ≤ 100 ∧ 0 ≤ n ∧ n ≤ 60 ∧ ∀ H', Same H H' → Q (.bl true) H'
theorem ok_law_reads (T : Tx K mg) : Ok PG w K mg base CX0 6 (a_law_reads K) p_law_reads (spReads K) := by
  refine Ok.of 5 T.f_law_reads sc_law_reads bi_law_reads (by decide) (fun vs H Q E h => ?_) (fun cdv A outer s H vs Q E hr h => ?_)
  · obtain ⟨_, _, _, _, rfl, _⟩ := h
    rfl
  · obtain ⟨c, a, es, n, rfl, hc, ha, le, n0, n1, q⟩ := h
    obtain ⟨dx, t, h1, h2⟩ := id hc
    have nd := sc_law_reads.nd
    refine ⟨_, pss_cons (ps_if (PW.pt (pw_or (pt_not (pt_val (pc (ok_law_same T 1) (hr.mono (by decide)) T.g_law_same pass0 (pa_cons (pe_fld (pv 0) rfl) (pa_cons (pe_callTy call_tuple_of (by rfl) T.m_tuple (by decide +kernel) (pa_cons (pv 1) pa_nil)) pa_nil))))) (pw_or1 (pt_not (pt_val (pc (ok_law_same T 0) (hr.mono (by decide)) T.g_law_same pass0 (pa_cons (pe_callB (cLen (ok_Cover_len T) T.wCover_len (hr.mono (by decide)) pass0) (by rfl) T.m_len PySem.boot_len (pa_cons (pv 0) pa_nil)) (pa_cons (pe_callB call_len_seq (by rfl) T.m_len PySem.boot_len (pa_cons (pv 1) pa_nil)) pa_nil)))))))) (pss_one (ps_ret pe_bl)) pss_nil)
      (pss_cons (ps_if (pt_not (pt_val (pc (ok_law_same T 1) (hr.mono (by decide)) T.g_law_same pass0 (pa_cons (pe_lc (own := [("end", 3)]) (g := gName 3) (tt := tYes) rfl nd (pi_own (it_Cover T) hr (pv 0)) (blkOk_by (N := n_law_reads) (sc := defScope s_law_reads) (by decide +kernel)) (fun _ _ _ _ _ => pg_name (i := 3) nd rfl (Or.inl rfl)) (fun _ _ _ _ _ => pts_nil) (fun _ _ _ _ _ => pv 3)) (pa_cons (pv 1) pa_nil))))) (pss_one (ps_ret pe_bl)) pss_nil)
      (pss_cons (ps_for (passX rfl) rfl (pi_list (pe_op op_cat (pe_callTy (call_list_rng rfl) (by rfl) T.m_list (by decide +kernel) (pa_cons (pe_callTy cr_range2 (by rfl) T.m_range (by decide +kernel) (pa_cons (pe_un un_neg pe_int) (pa_cons (pe_op op_add (pv 2) pe_int) pa_nil))) pa_nil)) (pv 1))) (pg_name (i := 4) nd rfl (.inl rfl))
        (pss_one (ps_if (pt_not (pt_val (pc (ok_law_same T 0) (hr.mono (by decide)) T.g_law_same pass0 (pa_cons (pe_cmpR (op_in_own (ok_Cover_contains T) T.wCover_contains (hr.mono (by decide)) pass0) (pv 4) (pv 0) (by rfl)) (pa_cons (pe_cmpR op_in_seq (pv 4) (pv 1) (by rfl)) pa_nil))))) (pss_one (ps_ret pe_bl)) pss_nil)))
      (pss_one (ps_ret pe_bl)))), ?_⟩
    refine ⟨_, rfl, c, _, dx, _, _, rfl, h1, T.cCover, T.nCover_ends, rfl, _, rfl, a, _, rfl, .inl ⟨SqL.of ha, fun m hm => ?_⟩⟩
    refine ⟨_, _, rfl, Eqd.row (.inl ⟨(Same.new hm).seqT h2, SqT.of upd_same⟩) (by omega), _, rfl, nope rfl ?_⟩
    have sG : Same H (upd H m (.tup (es.map V.int))) := .new hm
    generalize upd H m (.tup (es.map V.int)) = G at sG ⊢
    have hcG := hc.same sG
    have h2G := sG.seqT h2
    have haG := sG _ _ ha
    refine ⟨_, rfl, c, dx, _, rfl, sG _ _ h1, c, es, rfl, hcG, es.length, rfl, by omega, _, rfl, a, _, rfl, .inl (SqL.of haG), _, _, rfl, ⟨by rw [List.length_map], .int _⟩, _, rfl, nope rfl ?_⟩
    refine ⟨_, rfl, c, dx, _, t, _, rfl, sG _ _ h1, rfl, h2G, fun D hD => ?_⟩
    refine lc_it (walk_tup (xs := es.map V.int)) (fun i H' => Same G H' ∧ H' D = some (.lst ((es.take i).map V.int))) ⟨.new hD, upd_same⟩ (fun i H' _ z => z.1.seqT h2G) (fun i x H' H2 hi z y => ?_) (fun H' z => ?_)
    · obtain ⟨rfl, hx⟩ := y
      obtain ⟨n, hn, rfl⟩ := map_get hx
      refine ⟨rfl, yesT ⟨_, rfl, _, z.2, by rw [List.length_map, List.length_take, sizeLine_eq]; omega, fun b o e => ?_, ?_⟩⟩
      · rw [upd_ne (fun y => by rw [y, hD] at e; cases e)]
        exact z.1 b o e
      · rw [upd_same, List.take_succ, hn, List.map_append]
        rfl
    obtain ⟨s1, hD1⟩ := z
    rw [List.length_map, List.take_length] at hD1
    refine ⟨_, rfl, _, _, rfl, Eqd.row (.inr ⟨SqL.of hD1, SqL.of (s1 _ _ haG)⟩) (by omega), _, rfl, nope rfl ?_⟩
    have s2 := sG.trans s1
    have ha2 := s2 _ _ ha
    refine ⟨1, rfl, _, rfl, _, _, rfl, rfl, _, _, rfl, fun r hr' => ⟨r, _, _, rfl, upd_same, ⟨by omega, by omega, by omega, by omega, by omega⟩, fun l hl => ?_⟩⟩
    have s3 := (Same.new (o := .rng (-1) (n + 3)) hr').new' (o := .lst (runI (-1) (n + 3 - -1).toNat)) hl
    have ha3 := s3 _ _ ha2
    have lr : (runI (-1) (n + 3 - -1).toNat).length ≤ 64 := by unfold runI; rw [List.length_map, List.length_range]; omega
    refine ⟨_, rfl, l, a, _, _, rfl, rfl, upd_same, ha3, by rw [List.length_map, sizeLine_eq]; omega, fun z hz => ?_⟩
    have s4 := s3.new' (o := .lst (runI (-1) (n + 3 - -1).toNat ++ es.map V.int)) hz
    have s5 := s2.trans s4
    refine ⟨z, rfl, ⟨_, SqL.of upd_same⟩, ?_⟩
    have allI : ∀ (i : Nat) (x : V), (runI (-1) (n + 3 - -1).toNat ++ es.map V.int)[i]? = some x → ∃ k, x = .int k := fun i x hx => by
      have hm := List.mem_of_getElem? hx
      rcases List.mem_append.mp hm with hm | hm
      · unfold runI at hm
        obtain ⟨j, _, rfl⟩ := List.mem_map.mp hm
        exact ⟨_, rfl⟩
      · obtain ⟨j, _, rfl⟩ := List.mem_map.mp hm
        exact ⟨_, rfl⟩
    have hz5 : upd (upd (upd H' r (.rng (-1) (n + 3))) l (.lst (runI (-1) (n + 3 - -1).toNat))) z (.lst (runI (-1) (n + 3 - -1).toNat ++ es.map V.int)) z = some (.lst (runI (-1) (n + 3 - -1).toNat ++ es.map V.int)) := upd_same
    generalize upd (upd (upd H' r (.rng (-1) (n + 3))) l (.lst (runI (-1) (n + 3 - -1).toNat))) z (.lst (runI (-1) (n + 3 - -1).toNat ++ es.map V.int)) = G5 at s5 hz5 ⊢
    refine for_list (xs := runI (-1) (n + 3 - -1).toNat ++ es.map V.int) (fun _ σ H' => ∃ x3 x4, σ = [some (.ref c), some (.ref a), some (.int n), x3, x4] ∧ H' = G5) ⟨_, _, rfl, rfl⟩ (fun _ σ H' _ z => (let ⟨_, _, _, e⟩ := z; e ▸ SqL.of hz5)) ?_ ?_
    · rintro i x σ H6 hx ⟨x3, x4, rfl, rfl⟩
      obtain ⟨k, rfl⟩ := allI i x hx
      refine ⟨_, rfl, _, rfl, c, dx, _, rfl, s5 _ _ h1, c, es, k, rfl, hc.same s5, _, rfl, ?_⟩
      refine ⟨_, rfl, _, rfl, a, _, rfl, .inl (SqL.of (s5 _ _ ha)), rfl, flat_ints _, ?_⟩
      rw [inV_ints]
      exact ⟨_, _, rfl, .atom (.bl _), _, rfl, nope rfl ⟨_, _, rfl, rfl⟩⟩
    · rintro σ H6 ⟨x3, x4, rfl, rfl⟩
      exact q _ s5
end
end K10

set_option maxRecDepth 100000
set_option maxHeartbeats 8000000
namespace K10
open PySem PySem.Spec PyProof.Rows L2
/-- a house's parts: at l a list of d, t, gap -/
structure PD where
  l : Addr
  d : Addr
  t : Addr
  days : List Int
  starts : List Int
  gap : Nat
structure PdOk (H : Hp) (P : PD) : Prop where
  hl : H P.l = some (.lst [.ref P.d, .ref P.t, .int (P.gap : Nat)])
  hd : H P.d = some (.lst (P.days.map V.int))
  ht : H P.t = some (.lst (P.starts.map V.int))
  B : PB P.days P.starts P.gap
theorem PdOk.same {H H' : Hp} {P : PD} (h : PdOk H P) (s : Same H H') : PdOk H' P := ⟨s _ _ h.hl, s _ _ h.hd, s _ _ h.ht, h.B⟩
theorem PdOk.part {K : PySem.W.Frag} {H : Hp} {P : PD} (h : PdOk H P) : Part K H P.l P.days P.starts P.gap := ⟨P.d, P.t, SqL.of h.hl, SqL.of h.hd, SqL.of h.ht⟩
def two (P Q : PD) (j : Nat) : PD := if j = 0 then P else Q
theorem two_ok {H : Hp} {P Q : PD} (h : PdOk H P) (k : PdOk H Q) (j : Nat) : PdOk H (two P Q j) := by
  unfold two; split
  · exact h
  · exact k
theorem two_at {P Q : PD} {j : Nat} {x : V} (h : [V.ref P.l, V.ref Q.l][j]? = some x) : x = .ref (two P Q j).l ∧ j < 2 := by
  match j, h with
  | 0, h => cases h; exact ⟨rfl, by decide⟩
  | 1, h => cases h; exact ⟨rfl, by decide⟩
  | j + 2, h => cases h
theorem two_get {P Q : PD} {j : Nat} (h : j < 2) : atI [V.ref P.l, V.ref Q.l] (j : Nat) = some (.ref (two P Q j).l) := by
  match j, h with
  | 0, _ => rfl
  | 1, _ => rfl
section
variable {w : World} {K : PySem.W.Frag} {mg : Str → Option Value} {base : Heap}
theorem mk_hok {H : Hp} {wp a : Addr} {days starts : List Int} {gap : Int} (hw : IsW K H wp days) (ld : days.length ≤ 60) (ha : SqA K H a (starts.map V.int)) (l : starts.length ≤ 30) (b : badc (days.length + 1) 0 starts = none) (g : 0 ≤ gap ∧ gap ≤ 60) (x dx : Addr) (hx : H x = none) (hdx : H dx = none) (hne : dx ≠ x) (Q : VK) (q : ∀ H', Same H H' → IsH K H' x days starts gap → Q .non H') :
    spHInit K ([.ref x, .ref wp, .ref a, .int gap]) (upd (upd H dx (.own x)) x (.ins (c_House K) dx [])) Q (fun _ _ _ => False) := by
  obtain ⟨x', wp', a', dx', days', starts', gap', e, h1, h2, h3, h4, h5, h6, h7, h8⟩ := mk_house (Q := fun y H' => ∃ p, y = .ref p ∧ Same H H' ∧ IsH K H' p days starts gap) (E := fun _ _ _ => False) hw ld ha ⟨fun c => absurd c (by omega), fun _ i n e => (by rw [b] at e; cases e), fun _ _ c => absurd g c, fun _ _ _ H' p s g => ⟨p, rfl, s, g⟩⟩ x dx hx hdx hne
  refine ⟨x', wp', a', dx', days', starts', gap', e, h1, h2, h3, h4, h5, h6, h7, fun c1 c2 c3 H' t s ht => ?_⟩
  obtain ⟨_, p, e', s', g⟩ := h8 c1 c2 c3 H' t s ht
  cases e
  cases e'
  exact q _ s' g
theorem IsC.put {H : Hp} {p g : Addr} {es : List Int} {ps : List V} {o : HO} (h : IsC K H p es) (hg : H g = some (.lst ps)) : IsC K (upd H g o) p es := let ⟨dx, t, a, b⟩ := h
  ⟨dx, t, (by rw [upd_ne (fun z => by rw [z, hg] at a; cases a)]; exact a), But.set.seqT hg b⟩
/-- list(x) within a comprehension -/
def rListOf (K : PySem.W.Frag) : List V → Hp → VK → Prop := fun xs H Q => ∃ p ys, xs = [V.ref p] ∧ (SqL K H p ys ∨ SqT K H p ys) ∧ ∀ l, H l = none → Q (.ref l) (upd H l (.lst ys))
def spLaw (K : PySem.W.Frag) : Sp := fun vs H Q _ => ∃ (a : Addr) (sc : List Int), vs = [.ref a] ∧ SqL K H a (sc.map V.int) ∧ ∀ H', Q (.bl true) H'
theorem fn_law (T : Tx K mg) {fd : FuncData} (F : FunD K "law" "law" (defArgs s_law) (defBody s_law) (defScope s_law) [] [] (a_law K) fd) : FnOk PG w K mg base CX0 12 (a_law K) fd p_law (spLaw K) := by
  obtain ⟨fi, Fi⟩ := T.f_House_init
  have Oi := fn_House_init (w := w) (base := base) T Fi
  obtain ⟨di, bi⟩ := bi_HK Fi
  refine F.ok (k := 11) sc_law (fun vs H Q E h => ?_) (fun cdv A outer s H vs Q E hr h => ?_)
  · obtain ⟨_, _, rfl, _⟩ := h
    rfl
  · obtain ⟨a, sc, rfl, hsc, q⟩ := h
    have nd := sc_law.nd
    refine ⟨_, pss_cons (ps_set (i := 1) nd rfl (.inl rfl) (pe_lst (pa_cons (pc (ok_law_house T) (hr.mono (by decide)) T.g_law_house pass0 (pa_cons (pc (ok_law_pool T) (hr.mono (by decide)) T.g_law_pool pass0 (pa_cons (pv 0) (pa_cons pe_int pa_nil))) pa_nil)) (pa_cons (pc (ok_law_house T) (hr.mono (by decide)) T.g_law_house pass0 (pa_cons (pc (ok_law_pool T) (hr.mono (by decide)) T.g_law_pool pass0 (pa_cons (pv 0) (pa_cons pe_int pa_nil))) pa_nil)) pa_nil))))
      (pss_cons (ps_setLc (i := 2) (own := [("part", 3)]) (g := gName 3) (tt := tYes) rfl nd rfl rfl (sw_true rfl rfl rfl (by decide +kernel)) (pi_list (pv 1)) (blkOk_by (N := n_law) (sc := defScope s_law) (by decide +kernel)) (fun _ _ _ _ _ => pg_name (i := 3) nd rfl (Or.inl rfl)) (fun _ _ _ _ _ => pts_nil) (fun _ _ _ _ _ => pe_makeK (n := 2) T.kHouse Oi (hr.mono (by decide)) rfl T.gHouse bi passF (pa_cons (pmk (ok_Wants_init T) T.kWants (hr.mono (by decide)) T.gWants passF (pa_cons (pe_callTy (T := "list") (r := rListOf K) call_list_of (by rfl) T.m_list (by decide +kernel) (pa_cons (pe_ix (r := rIxL K) (ta := tVar 3) (tb := tC (V.int 0)) ix_list (pv 3) pe_int (fun _ _ => rfl)) pa_nil)) pa_nil)) (pa_cons (pe_callTy (T := "list") (r := rListOf K) call_list_of (by rfl) T.m_list (by decide +kernel) (pa_cons (pe_ix (r := rIxL K) (ta := tVar 3) (tb := tC (V.int 1)) ix_list (pv 3) pe_int (fun _ _ => rfl)) pa_nil)) pa_nil)) (pk_cons (pe_ix (r := rIxL K) (ta := tVar 3) (tb := tC (V.int 2)) ix_list (pv 3) pe_int (fun _ _ => rfl)) pk_nil)))
      (pss_cons (ps_set (i := 4) nd rfl (.inl rfl) (pc (ok_law_drawn_ends T) (hr.mono (by decide)) T.g_law_drawn_ends pass0 (pa_cons (pc (ok_law_pool T) (hr.mono (by decide)) T.g_law_pool pass0 (pa_cons (pv 0) (pa_cons pe_int pa_nil))) (pa_cons (pe_callB call_len_seq (by rfl) T.m_len PySem.boot_len (pa_cons (pe_ix ix_list (pe_ix ix_list (pv 1) pe_int (fun _ _ => rfl)) pe_int (fun _ _ => rfl)) pa_nil)) (pa_cons (pe_ix ix_list (pe_ix ix_list (pv 1) pe_int (fun _ _ => rfl)) pe_int (fun _ _ => rfl)) pa_nil)))))
      (pss_cons (ps_set (i := 5) nd rfl (.inl rfl) (pe_callTy call_list_of (by rfl) T.m_list (by decide +kernel) (pa_cons (pv 4) pa_nil)))
      (pss_cons (ps_set (i := 6) nd rfl (.inl rfl) (pmk (ok_Cover_init T) T.kCover (hr.mono (by decide)) T.gCover (E := fun _ _ _ => False) pass0 (pa_cons (pv 5) pa_nil)))
      (pss_cons (ps_if (pt_not (pt_val (pc (ok_law_same T 1) (hr.mono (by decide)) T.g_law_same pass0 (pa_cons (pv 5) (pa_cons (pv 4) pa_nil))))) (pss_one (ps_ret pe_bl)) pss_nil)
      (pss_cons (ps_expr (pe_bm PySem.F.plainAttrs_list PySem.F.slot_list_append PySem.F.type_list_append mt_append (pv 5) (pa_cons pe_int pa_nil)))
      (pss_cons (ps_asg (pe_un un_neg pe_int) (pg_sub (pv 5) pe_int set_list))
      (pss_cons (ps_set (i := 7) nd rfl (.inl rfl) (pc (ok_law_drawn_ends T) (hr.mono (by decide)) T.g_law_drawn_ends pass0 (pa_cons (pc (ok_law_pool T) (hr.mono (by decide)) T.g_law_pool pass0 (pa_cons (pv 0) (pa_cons pe_int pa_nil))) (pa_cons (pe_callB call_len_seq (by rfl) T.m_len PySem.boot_len (pa_cons (pe_ix ix_list (pe_ix ix_list (pv 1) pe_int (fun _ _ => rfl)) pe_int (fun _ _ => rfl)) pa_nil)) (pa_cons (pe_ix ix_list (pe_ix ix_list (pv 1) pe_int (fun _ _ => rfl)) pe_int (fun _ _ => rfl)) pa_nil)))))
      (pss_cons (ps_set (i := 8) nd rfl (.inl rfl) (pmk (ok_Cover_init T) T.kCover (hr.mono (by decide)) T.gCover (E := fun _ _ _ => False) pass0 (pa_cons (pe_callTy call_list_of (by rfl) T.m_list (by decide +kernel) (pa_cons (pv 7) pa_nil)) pa_nil)))
      (pss_cons (ps_for (passX rfl) rfl (pi_range1 rfl T.m_range (pa_cons pe_int pa_nil)) (pg_name (i := 9) nd rfl (.inl rfl))
        (pss_cons (ps_for (passX rfl) rfl (pi_range1 rfl T.m_range (pa_cons pe_int pa_nil)) (pg_name (i := 10) nd rfl (.inl rfl))
            (pss_cons (ps_if (pt_not (pt_val (pc (ok_law_asked T) hr T.g_law_asked pass0 (pa_cons (pe_ix ix_list (pv 2) (pv 10) (fun _ _ => rfl)) (pa_cons (pe_ix ix_list (pv 1) (pv 10) (fun _ _ => rfl)) (pa_cons (pv 6) (pa_cons (pv 4) pa_nil))))))) (pss_one (ps_ret pe_bl)) pss_nil)
              (pss_one (ps_if (pt_not (pt_val (pc (ok_law_asked T) hr T.g_law_asked pass0 (pa_cons (pe_ix ix_list (pv 2) (pv 10) (fun _ _ => rfl)) (pa_cons (pe_ix ix_list (pv 1) (pv 10) (fun _ _ => rfl)) (pa_cons (pv 8) (pa_cons (pv 7) pa_nil))))))) (pss_one (ps_ret pe_bl)) pss_nil))))
          (pss_one (ps_if (PW.pt (pw_or (pt_not (pt_val (pc (ok_law_reads T) (hr.mono (by decide)) T.g_law_reads pass0 (pa_cons (pv 6) (pa_cons (pv 4) (pa_cons (pe_callB call_len_seq (by rfl) T.m_len PySem.boot_len (pa_cons (pe_ix ix_list (pe_ix ix_list (pv 1) (pv 9) (fun _ _ => rfl)) pe_int (fun _ _ => rfl)) pa_nil)) pa_nil)))))) (pw_or1 (pt_not (pt_val (pc (ok_law_reads T) (hr.mono (by decide)) T.g_law_reads pass0 (pa_cons (pv 8) (pa_cons (pv 7) (pa_cons (pe_callB call_len_seq (by rfl) T.m_len PySem.boot_len (pa_cons (pe_ix ix_list (pe_ix ix_list (pv 1) (pv 9) (fun _ _ => rfl)) pe_int (fun _ _ => rfl)) pa_nil)) pa_nil))))))))) (pss_one (ps_ret pe_bl)) pss_nil))))
      (pss_one (ps_ret pe_bl)))))))))))), ?_⟩
    -- the parts
    refine ⟨_, rfl, a, sc, 0, rfl, hsc, fun p0 st0 cp0 ok0 => ?_⟩
    refine ⟨p0, st0, rfl, upd_same, ok0, fun H1 l0 d0 t0 days0 starts0 gap0 _ b1 _ _ _ _ _ hl0 hd0 ht0 B0 => ?_⟩
    have k1 : Same H H1 := But.fresh cp0 b1
    have P0 : PdOk H1 ⟨l0, d0, t0, days0, starts0, gap0⟩ := ⟨hl0, hd0, ht0, B0⟩
    generalize hP0 : PD.mk l0 d0 t0 days0 starts0 gap0 = P at P0
    obtain rfl : P.l = l0 := by rw [← hP0]
    refine ⟨_, rfl, a, sc, 1, rfl, k1.seq hsc, fun p1 st1 cp1 ok1 => ?_⟩
    refine ⟨p1, st1, rfl, upd_same, ok1, fun H2 l1 d1 t1 days1 starts1 gap1 _ b2 _ _ _ _ _ hl1 hd1 ht1 B1 => ?_⟩
    have k2 : Same H1 H2 := But.fresh cp1 b2
    have R0 : PdOk H2 ⟨l1, d1, t1, days1, starts1, gap1⟩ := ⟨hl1, hd1, ht1, B1⟩
    generalize hR0 : PD.mk l1 d1 t1 days1 starts1 gap1 = R at R0
    obtain rfl : R.l = l1 := by rw [← hR0]
    have P2 := P0.same k2
    have hsc2 := (k1.trans k2).seq hsc
    refine ⟨by show 2 ≤ sizeLine; decide, fun L hL => ?_⟩
    have k3 : Same H2 (upd H2 L (.lst [.ref P.l, .ref R.l])) := .new hL
    have P3 := P2.same k3
    have R3 := R0.same k3
    have hsc3 := k3.seq hsc2
    have hL3 : upd H2 L (.lst [.ref P.l, .ref R.l]) L = some (.lst [.ref P.l, .ref R.l]) := upd_same
    generalize upd H2 L (.lst [.ref P.l, .ref R.l]) = H3 at P3 R3 hsc3 hL3 ⊢
    clear P2 R0 hsc2 k3 hL P0 k2 k1 b1 b2 cp0 cp1 hl0 hd0 ht0 hl1 hd1 ht1 B0 B1
    refine ⟨_, rfl, L, rfl, ⟨_, SqL.of hL3⟩, fun D hD => ?_⟩
    refine lc_list (xs := [.ref P.l, .ref R.l]) (fun i H' => ∃ acc : List V, Same H3 H' ∧ H' D = some (.lst acc) ∧ acc.length = i ∧ ∀ j, j < i → ∃ h, acc[j]? = some (.ref h) ∧ IsH K H' h (two P R j).days (two P R j).starts ((two P R j).gap : Nat)) ⟨[], .new hD, upd_same, rfl, fun j hj => by omega⟩ (fun i H' _ z => let ⟨_, s, _⟩ := z; SqL.of (s _ _ hL3)) (fun i x H' hx z => ?_) (fun H' z => ?_)
    · obtain ⟨acc, sm, hd, ln, hs⟩ := z
      obtain ⟨rfl, i2⟩ := two_at hx
      have W := (two_ok P3 R3 i).same sm
      generalize hW : two P R i = Y at W
      have B := W.B
      refine ⟨rfl, yesT ?_⟩
      refine ⟨_, rfl, Y.l, _, _, _, rfl, rfl, SqL.of W.hl, rfl, Y.d, _, rfl, .inl (SqL.of W.hd), fun x hx => ?_⟩
      have a1 : Same H' (upd H' x (.lst (Y.days.map V.int))) := .new hx
      refine fun q1 dq hq hdq hne => mk_wok (.inl (SqL.of upd_same)) B.ld B.bd q1 dq hq hdq hne _ fun G2 g2 hw => ⟨rfl, ?_⟩
      have a2 := a1.trans g2
      refine ⟨_, rfl, Y.l, _, _, _, rfl, rfl, SqL.of (a2 _ _ W.hl), rfl, Y.t, _, rfl, .inl (SqL.of (a2 _ _ W.ht)), fun y hy => ?_⟩
      have a3 := a2.new' (o := .lst (Y.starts.map V.int)) hy
      refine ⟨_, rfl, Y.l, _, _, _, rfl, rfl, SqL.of (a3 _ _ W.hl), rfl, rfl, rfl, fun h dh h1 h2 h3 => mk_hok (gap := ((Y.gap : Nat) : Int)) (hw.same (.new hy)) B.ld (.inl (SqL.of upd_same)) B.ls (badc_none.2 B.bs) ⟨by omega, by have := B.lg; omega⟩ h dh h1 h2 h3 _ fun G3 g3 hh => ⟨rfl, ?_⟩⟩
      have a4 := a3.trans g3
      refine ⟨acc, a4 _ _ hd, by rw [ln, sizeLine_eq]; omega, acc ++ [.ref h], fun b o eb => ?_, upd_same, by rw [List.length_append, ln]; rfl, fun j hj => ?_⟩
      · rw [upd_ne (fun z => by rw [z, hD] at eb; cases eb)]
        exact a4 _ _ (sm _ _ eb)
      · have ins : ∀ {z : Addr} {days starts : List Int} {g : Int}, IsH K G3 z days starts g → IsH K (upd G3 D (.lst (acc ++ [.ref h]))) z days starts g := fun {z days starts g} hz => by
          obtain ⟨dx, wp, t, e1, ⟨dw, u, e2, e3⟩, e4, e5, e6⟩ := hz
          have nD : ∀ {b : Addr} {C dy : Addr} {fs : List (Str × V)}, G3 b = some (.ins C dy fs) → b ≠ D := fun {b C dy fs} e z => by rw [z, a4 _ _ hd] at e; cases e
          exact ⟨dx, wp, t, by rw [upd_ne (nD e1)]; exact e1, ⟨dw, u, by rw [upd_ne (nD e2)]; exact e2, But.set.seqT (a4 _ _ hd) e3⟩, But.set.seqT (a4 _ _ hd) e4, e5, e6⟩
        by_cases c : j < i
        · obtain ⟨h', e1, e2⟩ := hs j c
          exact ⟨h', by rw [List.getElem?_append_left (by omega)]; exact e1, ins (e2.same a4)⟩
        · obtain rfl : j = i := by omega
          exact ⟨h, by rw [← ln, List.getElem?_concat_length], by rw [hW]; exact ins hh⟩
    · obtain ⟨acc, sm, hd, ln, hs⟩ := z
      have hsc4 := sm.seq hsc3
      have P4 := P3.same sm
      have R4 := R3.same sm
      have hL4 := sm _ _ hL3
      have hs : ∀ j, j < 2 → ∃ h, acc[j]? = some (.ref h) ∧ IsH K H' h (two P R j).days (two P R j).starts ((two P R j).gap : Nat) := hs
      clear sm hsc3 P3 R3 hL3 hD
      generalize H' = C at hd hs hsc4 P4 R4 hL4 ⊢
      refine ⟨_, rfl, a, sc, 2, rfl, hsc4, fun p2 st2 cp2 ok2 => ?_⟩
      have z0 : Same C (upd C p2 (.lst st2)) := .new cp2
      refine ⟨_, rfl, L, _, _, _, rfl, rfl, SqL.of (z0 _ _ hL4), rfl, P.l, _, _, _, rfl, rfl, SqL.of (z0 _ _ P4.hl), rfl, P.d, _, rfl, .inl (SqL.of (z0 _ _ P4.hd)), ?_⟩
      rw [List.length_map]
      refine ⟨_, rfl, L, _, _, _, rfl, rfl, SqL.of (z0 _ _ hL4), rfl, P.l, _, _, _, rfl, rfl, SqL.of (z0 _ _ P4.hl), rfl, p2, st2, _, _, rfl, by omega, by have := P4.B.ld; omega, upd_same, ok2, fun C1 e es _ b1 _ _ he0 he le => ?_⟩
      have k1 : Same C C1 := But.fresh cp2 b1
      have P5 := P4.same k1
      have R5 := R4.same k1
      have hL5 := k1 _ _ hL4
      have hd5 := k1 _ _ hd
      have hsc5 := k1.seq hsc4
      have hs5 : ∀ j, j < 2 → ∃ h, acc[j]? = some (.ref h) ∧ IsH K C1 h (two P R j).days (two P R j).starts ((two P R j).gap : Nat) := fun j hj => let ⟨h, x, y⟩ := hs j hj; ⟨h, x, y.same k1⟩
      clear hs hd hsc4 P4 R4 hL4 z0 b1 k1 cp2 he0
      -- given, the cover
      refine ⟨_, rfl, e, _, rfl, .inl (SqL.of he), fun g hg => ?_⟩
      have j1 : Same C1 (upd C1 g (.lst (es.map V.int))) := .new hg
      refine ⟨_, rfl, fun cv dc hcv hdc hne => mk_cok (.inl (SqL.of upd_same)) cv dc hcv hdc hne _ fun C2 s2 hcov => ⟨rfl, ?_⟩⟩
      have j2 := j1.trans s2
      have hg2 : C2 g = some (.lst (es.map V.int)) := s2 _ _ upd_same
      refine ⟨_, rfl, _, rfl, _, _, rfl, Eqd.row (.inr ⟨SqL.of hg2, SqL.of (j2 _ _ he)⟩) (by omega), _, rfl, nope rfl ?_⟩
      refine ⟨_, rfl, .inl ⟨rfl, _, SqL.of hg2⟩, g, _, _, rfl, rfl, hg2, by rw [List.length_map, sizeLine_eq]; omega, ?_⟩
      have cov3 := hcov.put (o := .lst (es.map V.int ++ [V.int 1])) hg2
      have j3 : Same C1 (upd C2 g (.lst (es.map V.int ++ [V.int 1]))) := fun b x eb => by
        rw [upd_ne (fun z => by rw [z, hg] at eb; cases eb)]
        exact j2 _ _ eb
      have hg3 : upd C2 g (.lst (es.map V.int ++ [V.int 1])) g = some (.lst (es.map V.int ++ [V.int 1])) := upd_same
      generalize upd C2 g (.lst (es.map V.int ++ [V.int 1])) = C3 at cov3 j3 hg3 ⊢
      refine ⟨7, rfl, _, rfl, g, _, 0, 0, rfl, rfl, hg3, ?_, ?_⟩
      · rw [List.length_append]
        show ixN (_ + 1) 0 = some 0
        unfold ixN
        simp
      have cov4 := cov3.put (o := .lst ((es.map V.int ++ [V.int 1]).set 0 (V.int (-7)))) hg3
      have j4 : Same C1 (upd C3 g (.lst ((es.map V.int ++ [V.int 1]).set 0 (V.int (-7))))) := fun b x eb => by
        rw [upd_ne (fun z => by rw [z, hg] at eb; cases eb)]
        exact j3 _ _ eb
      generalize upd C3 g (.lst ((es.map V.int ++ [V.int 1]).set 0 (V.int (-7)))) = C4 at cov4 j4 ⊢
      have P6 := P5.same j4
      have R6 := R5.same j4
      have hL6 := j4 _ _ hL5
      have hd6 := j4 _ _ hd5
      have he6 := j4 _ _ he
      have hsc6 := j4.seq hsc5
      have hs6 : ∀ j, j < 2 → ∃ h, acc[j]? = some (.ref h) ∧ IsH K C4 h (two P R j).days (two P R j).starts ((two P R j).gap : Nat) := fun j hj => let ⟨h, x, y⟩ := hs5 j hj; ⟨h, x, y.same j4⟩
      clear hs5 hd5 hsc5 P5 R5 hL5 he j4 j3 j2 j1 cov3 hg3 hg2 hcov hg hcv hdc s2
      refine ⟨_, rfl, a, sc, 3, rfl, hsc6, fun p3 st3 cp3 ok3 => ?_⟩
      have z0 : Same C4 (upd C4 p3 (.lst st3)) := .new cp3
      refine ⟨_, rfl, L, _, _, _, rfl, rfl, SqL.of (z0 _ _ hL6), rfl, R.l, _, _, _, rfl, rfl, SqL.of (z0 _ _ R6.hl), rfl, R.d, _, rfl, .inl (SqL.of (z0 _ _ R6.hd)), ?_⟩
      rw [List.length_map]
      refine ⟨_, rfl, L, _, _, _, rfl, rfl, SqL.of (z0 _ _ hL6), rfl, R.l, _, _, _, rfl, rfl, SqL.of (z0 _ _ R6.hl), rfl, p3, st3, _, _, rfl, by omega, by have := R6.B.ld; omega, upd_same, ok3, fun C5 m ms _ b5 _ _ hm0 hm lm => ?_⟩
      have k5 : Same C4 C5 := But.fresh cp3 b5
      refine ⟨_, rfl, m, _, rfl, .inl (SqL.of hm), fun y hy => ?_⟩
      refine fun mv dm hmv hdm hne => mk_cok (.inl (SqL.of upd_same)) mv dm hmv hdm hne _ fun C6 s6 hmo => ⟨rfl, ?_⟩
      have k6 := (k5.new' (o := .lst (ms.map V.int)) hy).trans s6
      have hm6 := ((Same.new (o := .lst (ms.map V.int)) hy).trans s6) _ _ hm
      have P7 := P6.same k6
      have R7 := R6.same k6
      have hL7 := k6 _ _ hL6
      have hd7 := k6 _ _ hd6
      have he7 := k6 _ _ he6
      have cov7 := cov4.same k6
      have hs7 : ∀ j, j < 2 → ∃ h, acc[j]? = some (.ref h) ∧ IsH K C6 h (two P R j).days (two P R j).starts ((two P R j).gap : Nat) := fun j hj => let ⟨h, x, y⟩ := hs6 j hj; ⟨h, x, y.same k6⟩
      clear hs6 hd6 hsc6 P6 R6 hL6 he6 k6 k5 z0 b5 cp3 hm0 hm hy hmv hdm s6 cov4
      refine ⟨2, rfl, by decide, by decide, ?_⟩
      refine for_range (lo := 0) (n := 2) (fun i σ H' => ∃ x9 x10, σ = [some (.ref a), some (.ref L), some (.ref D), none, some (.ref e), some (.ref g), some (.ref cv), some (.ref m), some (.ref mv), x9, x10] ∧ Same C6 H') ⟨_, _, rfl, .refl _⟩ ?_ ?_
      · rintro i σ G hi ⟨x9, x10, rfl, sG⟩
        rw [Int.zero_add]
        refine ⟨2, rfl, by decide, by decide, ?_⟩
        refine for_range (lo := 0) (n := 2) (fun j σ H' => ∃ x10, σ = [some (.ref a), some (.ref L), some (.ref D), none, some (.ref e), some (.ref g), some (.ref cv), some (.ref m), some (.ref mv), some (.int ((i : Nat) : Int)), x10] ∧ Same C6 H') ⟨_, rfl, sG⟩ ?_ ?_
        · rintro j σ G1 hj ⟨x10, rfl, s1⟩
          rw [Int.zero_add]
          obtain ⟨h, ha, hh⟩ := hs7 j hj
          have Y := (two_ok P7 R7 j)
          have B := Y.B
          refine ⟨_, rfl, _, rfl, D, _, _, _, rfl, rfl, SqL.of (s1 _ _ hd7), atI_nat ha, ?_⟩
          refine ⟨_, rfl, _, rfl, L, _, _, _, rfl, rfl, SqL.of (s1 _ _ hL7), two_get hj, ?_⟩
          refine ⟨_, rfl, _, rfl, h, _, cv, e, _, _, es, _, rfl, hh.same s1, (Y.same s1).part, cov7.same s1, SqL.of (s1 _ _ he7), B, le, fun G2 g2 => ⟨_, rfl, nope rfl ?_⟩⟩
          have s2 := s1.trans g2
          refine ⟨_, rfl, _, rfl, D, _, _, _, rfl, rfl, SqL.of (s2 _ _ hd7), atI_nat ha, ?_⟩
          refine ⟨_, rfl, _, rfl, L, _, _, _, rfl, rfl, SqL.of (s2 _ _ hL7), two_get hj, ?_⟩
          refine ⟨_, rfl, _, rfl, h, _, mv, m, _, _, ms, _, rfl, hh.same s2, (Y.same s2).part, hmo.same s2, SqL.of (s2 _ _ hm6), B, lm, fun G3 g3 => ⟨_, rfl, nope rfl ?_⟩⟩
          exact ⟨_, rfl, s2.trans g3⟩
        · rintro σ G1 ⟨x10, rfl, s1⟩
          have Y := (two_ok P7 R7 i)
          have B := Y.B
          have l60 := B.ld
          have Y1 := Y.same s1
          refine ⟨_, rfl, _, rfl, _, rfl, _, rfl, L, _, _, _, rfl, rfl, SqL.of (s1 _ _ hL7), two_get hi, _, _, _, _, rfl, rfl, SqL.of Y1.hl, rfl, _, _, rfl, .inl (SqL.of Y1.hd), ?_⟩
          rw [List.length_map]
          refine ⟨cv, e, es, _, rfl, cov7.same s1, s1 _ _ he7, le, by omega, by omega, fun G2 g2 => ⟨_, rfl, nope rfl ?_⟩⟩
          have s2 := s1.trans g2
          have Y2 := Y.same s2
          refine ⟨_, rfl, _, rfl, _, rfl, _, rfl, L, _, _, _, rfl, rfl, SqL.of (s2 _ _ hL7), two_get hi, _, _, _, _, rfl, rfl, SqL.of Y2.hl, rfl, _, _, rfl, .inl (SqL.of Y2.hd), ?_⟩
          rw [List.length_map]
          refine ⟨mv, m, ms, _, rfl, hmo.same s2, s2 _ _ hm6, lm, by omega, by omega, fun G3 g3 => ⟨_, rfl, nope rfl ?_⟩⟩
          exact ⟨_, _, rfl, s2.trans g3⟩
      · rintro σ G ⟨x9, x10, rfl, sG⟩
        exact q _
end
end K10

set_option maxRecDepth 100000
set_option maxHeartbeats 0
namespace K10
open PySem PySem.W PySem.Spec PySem.Calls PyProof.Rows L2 He He5 HX
theorem facts {w : World} {K : Frag} {h : Heap} {mg : Str → Option Value} {f : Addr} (X : K.In h) (G : h.Ns mainGlobals mg) (hfa : mg ("law" : Str) = some (.ref f)) (c : SaysX bx fn er "/claim/cut.py" K) :
    ∃ fd : FuncData, (∀ (s : Shared) (v : Value), BindsTo s fd ⟨[v], []⟩ [("script", v)]) ∧ ∀ base : Heap, K.In base → base.Ns mainGlobals mg → FnOk PG w K mg base CX0 12 f fd ["script"] (spLaw K) := by
  have T := tx_of c X G
  obtain ⟨fd, F⟩ := T.f_law
  have e := hfa.symm.trans T.g_law
  cases e
  exact ⟨fd, fun s v => FunD.bindsA (ps := ["script"]) F (fun _ _ _ _ _ _ us hl => match us, hl with | [_], _ => rfl) s [v] rfl, fun base _ _ => fn_law T F⟩
end K10
open PySem PySem.W PySem.Calls PyProof.Rows
theorem PySem.Challenge.cw_nightsoff_k10_covers_read_holds : PySem.Challenge.rw_nightsoff_k10_covers_read.Holds := by
  w_on; o_law
  refine HandSHeadRun.head_any (r := OpenLaw.row PySem.Challenge.rw_nightsoff_k10_covers_read) (q := view (OpenLaw.row PySem.Challenge.rw_nightsoff_k10_covers_read).prog [50]) (H := K10.hk) (ob := K10.ob) (M := 20000) (loose := K10.names) (d := HandSHeadRun.topDef (OpenLaw.row PySem.Challenge.rw_nightsoff_k10_covers_read).prog 50) (kwd := []) K10.ob_eq
    (by kernel_rfl) (fun s => by kernel_rfl) K10.run (by kernel_rfl) (by kernel_rfl) (by kernel_rfl) (by rfl) (by first | assumption | decide +kernel) (by decide +kernel) ⟨rfl, rfl, rfl, rfl, rfl, by decide +kernel⟩ ?hw ?hc
  case hw => w_witness2
  case hc =>
    refine L2.walk_ofX (l := PySem.Challenge.rw_nightsoff_k10_covers_read) (n := 63) (k := 12) (x := "script") (CX := fun _ => L2.CX0) rfl (by decide) (by kernel_rfl) ⟨rfl, by decide, by decide⟩ ?F (fun _ _ _ _ _ z => z)
    intro w mg fa h Y G hmg0
    obtain ⟨K, KX, c⟩ := Y
    have hmg : mg ("law" : PySem.Str) = some (.ref fa) := by
      have e : (HandSHeadRun.topDef (OpenLaw.row PySem.Challenge.rw_nightsoff_k10_covers_read).prog 50).name = ("law" : PySem.Str) := by kernel_rfl
      rw [← e]
      exact hmg0
    obtain ⟨fd, hb, hF⟩ := K10.facts (w := w) KX G hmg c
    exact ⟨K, fd, K10.spLaw K, KX, hb, fun H a ns hl _ _ hS => ⟨a, ns, rfl, hS, fun _ => rfl⟩, hF⟩
