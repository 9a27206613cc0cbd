import PyProof.Rows.All
import Wide.All
import OpenK.AllK
import Wide.FinOn
import HandS.ForMost
import HandS.IsInst
import HandS.Style
import HandS.Sort
import KE.KSortTupG
import PyProof.TupleOfSeq
import HandS.Walk
import HandS.TupAny
import HandS.TupMul
import HandS.Deep
import HandS.DictTup
import HandS.DictComp
import HandS.TupLen
import HandS.Conv
import PyProof.DictMoreH
import HandS.Iter
import HandS.ListItems
import KE.KDictPairs
import HandS.Star
import KE.KDictSum
import HandS.TupSets
import HandS.SetBool
import PySem.Challenge.RW_branchedhall_k20_leave_asked_by_names
set_option Elab.async false
set_option linter.all false
set_option maxRecDepth 100000
set_option maxHeartbeats 4000000
/-! Rules of my own over the hand layer: texts repeated, repr of data (no repr under way around), calls by keywords alone. -/
namespace Br
open PySem PySem.Spec PyProof.Rows L2

/-- nothing of repr is under way around -/
abbrev Bare (Ar : Around) : Prop := Ar.guards = some []

/-- FnOk, asked only where no repr is under way -/
structure FnG (P : Program) (w : World) (K : PySem.W.Frag) (mg : Str → Option Value) (base : Heap) (CX : CXT) (k : Nat) (f : Addr) (fd : FuncData) (ps : List Str) (sp : Sp) : Prop where
  many : ∀ vs H Q E, sp vs H Q E → vs.length = ps.length
  runs : ∀ (Ar : Around) (out : List Env) (st : Shared) (H : Hp) (as : Args) (us : List Value) (vs : List V) (Q : VK) (E : XK), Bare Ar → Room k Ar → Env0 P w K mg base Ar out st H → BindsTo st fd as (ps.zip us) → Vals vs us → sp vs H Q E →
    codeAny (model P w) Ar (.call (.ref f) as) (CR CX out P w H st Q E) st

section
variable {P : Program} {w : World} {K : PySem.W.Frag} {mg : Str → Option Value} {base : Heap} {CX : CXT} {k j : Nat} {f : Addr} {fd : FuncData} {ps : List Str} {sp : Sp}
theorem FnG.of (F : FnOk P w K mg base CX k f fd ps sp) : FnG P w K mg base CX k f fd ps sp :=
  ⟨F.len, fun Ar out st H as us vs Q E _ hr e0 hb r h => F.run Ar out st H as us vs Q E hr e0 hb r h⟩
theorem FnG.up (F : FnG P w K mg base CX j f fd ps sp) (h : j ≤ k) : FnG P w K mg base CX k f fd ps sp :=
  ⟨F.many, fun Ar out st H as us vs Q E g hr => F.runs Ar out st H as us vs Q E g (hr.mono h)⟩

/-- the rule for a def, as Fun.ok, with what is known of repr -/
theorem okG {x qual : Str} {st : Stmt} {N : List Str} (F : Fun K x qual st f fd) (S : FnScope N ps (defScope st)) (len : ∀ vs H Q E, sp vs H Q E → vs.length = ps.length)
    (body : ∀ (cdv : Value) (Ar : Around) (out : List Env) (s0 : Shared) (H : Hp) (vs : List V) (Q : VK) (E : XK), Bare Ar → Room k (Ar.deeper (envOfC qual (defScope st) s0.heap.objs.size f cdv)) → sp vs H Q E →
      ∃ t, PSs (cxOf CX0 P w K mg base N qual (defScope st) f cdv Ar out s0 H E).nox (defBody st) t ∧ t { nx := fun _ H' => Q .non H', rt := Q } (start N vs) H) : FnG P w K mg base CX0 (k + 1) f fd ps sp := by
  obtain ⟨oc, od, kV, dc, pm, an, cdv, ct, osl, rfl, lk, hcd⟩ := F.ex
  constructor
  · exact len
  intro Ar out s0 H as us vs Q E hG hr e0 hb r hsp
  have hl := len _ _ _ _ hsp
  have inK : K.In s0.heap := e0.mod.kin.keeps fun b o q => (e0.bs b o q).1
  have lim : s0.heap.NoLimit := e0.mod.nolimit.keeps fun b o q => (e0.bs b o q).1
  refine codeAny_call_function hr.depth (inK _ _ lk) rfl S.co S.gen rfl (PySem.W.codeRec_of inK hcd) (hb _ _ _ _ ?_)
  refine wpAny_newFunctionEnv_cells S.kind (fun ⟨n, v⟩ hy => (S.par n (List.of_mem_zip hy).1).imp id fun q => ⟨q, PySem.W.cellsFrom_some _ _ _ (.inl q)⟩) fun env he s1 x => ?_
  subst he
  refine ⟨lim.keeps x.toInCall.keep, codeAny_func ?_⟩
  obtain ⟨t, ht, hq⟩ := body cdv Ar out s0 H vs Q E hG (hr.deeper _) hsp
  have I : Inv (cxOf CX0 P w K mg base N qual (defScope st) f cdv Ar out s0 H E) [] (start N vs) H s1 := inv_start S hr.hd e0 hl r x
  refine wpAny_mono (ht.nox.run [] s1 (start N vs) H _ I hq) (fun fl s' hs => ?_) fun _ _ hs => hs
  cases fl with
  | ret u => obtain ⟨v, _, H', J, rv, q⟩ := hs; exact ⟨v, H', J.os, J.bare, J.base, J.hok, rv, q⟩
  | next => obtain ⟨_, H', J, q⟩ := hs; exact ⟨V.non, H', J.os, J.bare, J.base, J.hok, rfl, q⟩
  | brk => exact hs.elim fun _ z => z.elim fun _ z => z.2.elim
  | cont => exact hs.elim fun _ z => z.elim fun _ z => z.2.elim
end

section
variable {X : Cx} {CX : CXT} {k : Nat} {f : Addr} {fd : FuncData} {ps ks : List Str} {sp : Sp} {E : XK} {x : Str} {p pos : Pos} {e : Expr} {es : List Expr} {kws : List Keyword} {t tk : TA}
/-- a call's end, whatever was bound -/
theorem run_g {pins : List (Addr × Obj)} {σ : L2.St} {H : Hp} {s : Shared} {Q : VK} {us ws : List Value} {kw : List (Str × Value)} {vs : List V} (F : FnG X.prog X.w X.K X.mg X.base CX k f fd ps sp) (hG : Bare X.A) (hr : Room k X.A) (hx : Passes CX X E) (I : Inv X pins σ H s)
    (hb : BindsTo s fd ⟨us, kw⟩ (ps.zip ws)) (r : Vals vs ws) (h : sp vs H Q E) : wpAny (model X.prog X.w) X.A (call (.ref f) us kw) (EP X pins σ Q) X.xe s := by
  refine wpAny_call (codeAny_mono (F.runs X.A X.stack s H ⟨us, kw⟩ ws vs Q E hG hr I.env0 hb r h) fun res s' hq => ?_)
  rcases res with e | fl
  · exact hx pins σ H s e s' I hq
  · cases fl with
    | ret u => exact I.after hq
    | _ => exact False.elim hq
/-- f(e, ..) -/
theorem pe_callG (F : FnG X.prog X.w X.K X.mg X.base CX k f fd ps sp) (hG : Bare X.A) (hr : Room k X.A) (hg : Gl X x) (hm : X.mg x = some (.ref f)) (hk : PySem.W.keepIn X.K (.ref f) = true) (hb : Binds X.K fd ps []) (hx : Passes CX X E)
    (ha : PA X (e :: es) t) (hdb : (x == ("__debug__" : Str)) = false := by decide) (he : starEach (e :: es) X.env = (false, eval e X.env) :: starEach es X.env := by rfl)
    (hpl : (backTo pos (starEach es X.env)).any (·.1) = false := by rfl) : PE X (.Call (.Name x p) (e :: es) [] pos) (tCall sp [] E t) := by
  constructor
  intro pins s σ H Q I h
  refine wpAny_Call_Name_kw (ld_glob I hg hm ?_ hdb)
  refine PySem.W.callWith_K (h₀ := X.base) I.ok.mod.kin hk (thn (ha.run pos pins s σ H _ I h) fun us s1 hh => ?_) he hpl
  obtain ⟨vs, H1, I1, r, q⟩ := hh
  refine ⟨I1.kIn, ?_⟩
  rw [List.append_nil] at q
  have hl : (us ++ []).length = ps.length := by rw [List.append_nil, ← r.length]; exact F.many _ _ _ _ q
  have hbb := hb s1 us I1.kIn hl
  rw [List.append_nil] at hbb
  exact run_g F hG hr hx I1 hbb r q
/-- f(k=e, ..) -/
theorem pe_callGK (F : FnG X.prog X.w X.K X.mg X.base CX k f fd ps sp) (hG : Bare X.A) (hr : Room k X.A) (hg : Gl X x) (hm : X.mg x = some (.ref f)) (hk : PySem.W.keepIn X.K (.ref f) = true)
    (hb : ∀ (s : Shared) (ws : List Value), ws.length = ps.length → BindsTo s fd ⟨[], ks.zip ws⟩ (ps.zip ws)) (hx : Passes CX X E)
    (hkw : PK X kws tk) (hall : (backToKw pos (keywordEach kws X.env)).all (·.1.isSome) = true := by rfl) (hks : (backToKw pos (keywordEach kws X.env)).filterMap (·.1) = ks := by rfl)
    (hdb : (x == ("__debug__" : Str)) = false := by decide) (hpl : ((backTo pos (starEach [] X.env)).any (·.1) || (backToKw pos (keywordEach kws X.env)).any (·.1.isNone)) = false := by rfl) :
    PE X (.Call (.Name x p) [] kws pos) (tCall sp [] E tk) := by
  constructor
  intro pins s σ H Q I h
  refine wpAny_Call_Name_kw (ld_glob I hg hm ?_ hdb)
  refine PySem.W.callWith_KW0 (h₀ := X.base) I.ok.mod.kin hk hall (thn (hkw.run pos pins s σ H _ I h) fun ws s1 hh => ?_) hpl
  obtain ⟨zs, H1, I1, r, q⟩ := hh
  refine ⟨I1.kIn, ?_⟩
  rw [hks]
  rw [List.append_nil] at q
  exact run_g F hG hr hx I1 (hb s1 ws (by rw [← r.length]; exact F.many _ _ _ _ q)) r q
/-- the same of a def that is promised whatever is under way -/
theorem pe_callK0 (F : FnOk X.prog X.w X.K X.mg X.base CX k f fd ps sp) (hr : Room k X.A) (hg : Gl X x) (hm : X.mg x = some (.ref f)) (hk : PySem.W.keepIn X.K (.ref f) = true)
    (hb : ∀ (s : Shared) (ws : List Value), ws.length = ps.length → BindsTo s fd ⟨[], ks.zip ws⟩ (ps.zip ws)) (hx : Passes CX X E)
    (hkw : PK X kws tk) (hall : (backToKw pos (keywordEach kws X.env)).all (·.1.isSome) = true := by rfl) (hks : (backToKw pos (keywordEach kws X.env)).filterMap (·.1) = ks := by rfl)
    (hdb : (x == ("__debug__" : Str)) = false := by decide) (hpl : ((backTo pos (starEach [] X.env)).any (·.1) || (backToKw pos (keywordEach kws X.env)).any (·.1.isNone)) = false := by rfl) :
    PE X (.Call (.Name x p) [] kws pos) (tCall sp [] E tk) := by
  constructor
  intro pins s σ H Q I h
  refine wpAny_Call_Name_kw (ld_glob I hg hm ?_ hdb)
  refine PySem.W.callWith_KW0 (h₀ := X.base) I.ok.mod.kin hk hall (thn (hkw.run pos pins s σ H _ I h) fun ws s1 hh => ?_) hpl
  obtain ⟨zs, H1, I1, r, q⟩ := hh
  refine ⟨I1.kIn, ?_⟩
  rw [hks]
  rw [List.append_nil] at q
  have hbb := hb s1 ws (by rw [← r.length]; exact F.len _ _ _ _ q)
  refine wpAny_call (codeAny_mono (F.run X.A X.stack s1 H1 ⟨[], ks.zip ws⟩ ws zs Q E hr I1.env0 hbb r q) fun res s' hq => ?_)
  rcases res with e | fl
  · exact hx pins σ H1 s1 e s' I1 hq
  · cases fl with
    | ret u => exact I1.after hq
    | _ => exact False.elim hq
end

section
variable {X : Cx}
/-- repr(x) of data -/
theorem call_reprD (hu : X.A.units + 64 < cLine) (hG : Bare X.A) : CallR X (.builtin "repr") (fun xs H Q => ∃ (a : Addr) (d : PyData), xs = [.ref a] ∧ Dp X.K H (.ref a) d ∧ d.showable = true ∧ d.hasDict = false ∧ d.depth ≤ 60 ∧ d.shown.length ≤ sizeLine ∧ Q (.str d.shown) H) := by
  intro pins s σ H xs us Q I r hh
  obtain ⟨a, d, rfl, hd, h1, h2, h3, h4, q⟩ := hh
  obtain ⟨u, rfl, ru⟩ := vals1 r
  cases (show u = Value.ref a from ru)
  obtain ⟨as, hR⟩ := Dp.reads I d _ _ hd (show RelV (.ref a) (.ref a) from rfl)
  refine repr_of_reads' hR h1 (fun z => by rw [h2] at z; cases z) hG (by omega) (fun _ _ e => e) (fun h' u tk hk => ?_) h4
  exact ⟨.str d.shown, H, I.kept hk, ⟨_, rfl⟩, q⟩
/-- a text, repeated -/
def repS (z : Str) (n : Int) : Str := if n < 1 then Str.empty else if n = 1 ∨ z.length = 0 then z else ⟨(List.replicate n.toNat z.cps).foldl (· ++ ·) #[]⟩
theorem op_mulS : OpR X (binaryOp .Mult) (fun x y H Q => ∃ (z : Str) (n : Int), x = .str z ∧ y = .int n ∧ 0 ≤ n ∧ n ≤ 1000 ∧ z.length ≤ 1000 ∧ (repS z n).length ≤ sizeLine ∧ Q (.str (repS z n)) H) := by
  intro pins s σ H x y v u Q I rx ry h
  obtain ⟨z, n, rfl, rfl, h0, h1, hz, hl, q⟩ := h
  obtain ⟨t, rfl⟩ := rx
  obtain ⟨t', rfl⟩ := ry
  have hp : (z.length : Int) * n ≤ 1000 * 1000 := Int.mul_le_mul (by omega) h1 h0 (by omega)
  refine PySem.P.mul_str ?_ (fun hn _ => ?_) (fun hn _ => ?_) ?_
  · rw [decide_eq_false (by omega), decide_eq_false (by omega)]; rfl
  · have := (Int.le_ediv_iff_mul_le (a := (z.length : Int)) (b := (2 ^ 63 - 1 : Int)) (c := n) (by omega)).mpr (by omega)
    omega
  · unfold Builtin.Str.tooLong
    refine decide_eq_false ?_
    have e : ((z.length * n.toNat : Nat) : Int) = (z.length : Int) * n := by rw [Int.natCast_mul, Int.toNat_of_nonneg h0]
    have : (1000 * 1000 : Nat) ≤ sizeLine := by decide
    omega
  · revert hl q
    unfold repS
    intro hl q
    by_cases c : n < 1
    · rw [if_pos c] at q ⊢
      exact ⟨by decide, .str Str.empty, H, I.tok _, ⟨_, rfl⟩, q⟩
    · rw [if_neg c] at hl q ⊢
      by_cases c2 : n = 1 ∨ z.length = 0
      · rw [if_pos c2] at q
        rw [if_pos (by rcases c2 with e | e <;> simp [e])]
        exact ⟨.str z, H, I, ⟨t, rfl⟩, q⟩
      · rw [if_neg c2] at hl q
        rw [if_neg (by intro e; apply c2; simpa using e)]
        exact ⟨hl, .str _, H, I.tok _, ⟨_, rfl⟩, q⟩
end

/-! ### the end of a law whose def is promised where no repr is under way -/
section
variable {P : Program} {w : World} {K : PySem.W.Frag} {mg mb : Str → Option Value} {k : Nat} {fa a : Addr} {fd : FuncData} {x : Str} {sp : Sp} {s₁ : Shared} {vs : List Value} {ns : List Int}
/-- the law's call where at most the script is tracked -/
theorem lawG_at (hns : s₁.heap.Ns mainGlobals mg) (hb : s₁.heap.Ns builtinsNs mb) (hbb : ∀ x : Str, x ≠ "__name__" → mb x = bootBuiltins x) (hlim : s₁.heap.NoLimit) (hg : s₁.gens = #[])
    (ha : s₁.heap.get? a = some { cls := .type "list", data := .seq vs.toArray }) (hr : Room k callerA)
    (F : ∀ base : Heap, K.In base → base.Ns mainGlobals mg → FnG P w K mg base CX0 k fa fd [x] sp) (hbind : ∀ (s : Shared) (u : Value), BindsTo s fd ⟨[u], []⟩ [(x, u)])
    (H : Hp) (hO : Only H) (hok : HOk P w H s₁.heap) (hA : ∀ b, H b ≠ none → b = a) (KH : K.In (hidT s₁.heap H)) (h : sp [.ref a] H (fun v _ => v = .bl true) fun _ _ _ => False) :
    codeAny (model P w) callerA (.call (.ref fa) ⟨[.ref a], []⟩) (fun r s' => r = .ok (.ret (.bool true)) ∧ OldK s₁.heap s'.heap ∧ s'.os = s₁.os ∧ AllBare s'.gens) s₁ := by
  have spare : ∀ {b : Addr} {m : Str → Option Value}, s₁.heap.Ns b m → (hidT s₁.heap H).Ns b m := by
    rintro b m ⟨o, es, ep, e, d, z⟩
    refine ⟨o, es, ep, hidT_get e ?_, d, z⟩
    refine Classical.byContradiction fun n => ?_
    have e' := hA b n
    subst e'
    rw [ha] at e
    cases e
    exact nomatch (show Data.seq vs.toArray _ = Data.dict es ep from d)
  have M : Mod K mg (hidT s₁.heap H) := ⟨KH, spare hns, ⟨mb, spare hb, hbb⟩, hlim.imp fun mc q => ⟨spare q.1, q.2⟩⟩
  have e0 : Env0 P w K mg (hidT s₁.heap H) callerA [] s₁ H := ⟨rfl, M, fun b o e => of_hidT e, Nat.le_of_eq (hidT_size _ _), trivial, fun b z => (List.not_mem_nil (show b ∈ ([] : List Addr) from z)).elim, hok, .of_eq hg⟩
  refine codeAny_mono ((F _ KH (spare hns)).runs callerA [] s₁ H ⟨[.ref a], []⟩ [.ref a] [.ref a] _ _ rfl hr e0 (hbind s₁ (.ref a)) (.cons rfl .nil) h) ?_
  rintro r s' hq
  rcases r with e | fl
  · exact False.elim hq
  cases fl with
  | ret u =>
    obtain ⟨v, H', os, bare, un, hok', ru, rfl⟩ := hq
    obtain rfl : u = Value.bool true := ru
    refine ⟨rfl, OldK.of_keep fun b o e => ?_, os, bare⟩
    rcases hO b with z | ⟨ob, xs, z⟩
    · exact un.keep b o e z (fun q => nomatch (show b ∈ ([] : List Addr) from q)) (fun q => nomatch q)
    · have e1 := (hok b _ z).1
      have e2 := (hok' b _ (un.frzs b ob _ z)).1
      rw [e] at e1
      cases e1
      exact e2
  | _ => exact False.elim hq
theorem lawG_call (KX : K.In s₁.heap) (hns : s₁.heap.Ns mainGlobals mg) (hb : s₁.heap.Ns builtinsNs mb) (hbb : ∀ x : Str, x ≠ "__name__" → mb x = bootBuiltins x) (hlim : s₁.heap.NoLimit) (hg : s₁.gens = #[])
    (ha : s₁.heap.get? a = some { cls := .type "list", data := .seq vs.toArray }) (hi : IntsAre vs ns) (hl : ns.length ≤ sizeLine) (hr : Room k callerA)
    (F : ∀ base : Heap, K.In base → base.Ns mainGlobals mg → FnG P w K mg base CX0 k fa fd [x] sp) (hbind : ∀ (s : Shared) (u : Value), BindsTo s fd ⟨[u], []⟩ [(x, u)])
    (hsp : ∀ H : Hp, Only H → SqL K H a (ns.map V.int) → sp [.ref a] H (fun v _ => v = .bl true) fun _ _ _ => False) :
    codeAny (model P w) callerA (.call (.ref fa) ⟨[.ref a], []⟩) (fun r s' => r = .ok (.ret (.bool true)) ∧ OldK s₁.heap s'.heap ∧ s'.os = s₁.os ∧ AllBare s'.gens) s₁ := by
  have rv := vals_ints hi
  have zl : vs.length ≤ sizeLine := by rw [hi.length]; exact hl
  by_cases hk : K.lookup a = none
  · let H : Hp := fun b => if b = a then some (.frz { cls := .type "list", data := .seq vs.toArray } (.lst (ns.map V.int))) else none
    have at_a : H a = some (.frz { cls := .type "list", data := .seq vs.toArray } (.lst (ns.map V.int))) := if_pos rfl
    have off : ∀ b, b ≠ a → H b = none := fun b n => if_neg n
    have hA : ∀ b, H b ≠ none → b = a := fun b n => Classical.byContradiction fun z => n (off b z)
    have hO : Only H := fun b => by
      by_cases z : b = a
      · subst z; exact .inr ⟨_, _, at_a⟩
      · exact .inl (off b z)
    refine lawG_at hns hb hbb hlim hg ha hr F hbind H hO (fun b u z => ?_) hA (fun b o e => hidT_get (KX b o e) ?_) (hsp H hO (.inl (.inr ⟨_, at_a⟩)))
    · have e := hA b (by rw [z]; exact nofun)
      subst e
      rw [at_a] at z
      cases z
      exact ⟨ha, by rw [List.length_map]; exact hl, vs, _, rv, ha⟩
    · refine off b fun z => ?_
      subst z
      rw [hk] at e
      cases e
  · obtain ⟨o, ho⟩ := Option.ne_none_iff_exists'.mp hk
    have e := KX a o ho
    rw [ha] at e
    cases e
    have hO : Only (fun _ => none) := fun _ => .inl rfl
    refine lawG_at hns hb hbb hlim hg ha hr F hbind (fun _ => none) hO (fun b u z => nomatch (show (none : Option HO) = some u from z)) (fun b z => absurd rfl z) (fun b o e => hidT_get (KX b o e) rfl) (hsp _ hO ?_)
    exact .inr ⟨_, vs.toArray, _, ho, rfl, rfl, rfl, by rw [List.size_toArray]; exact zl, by simpa using rv⟩
end
theorem walk_G {l : PySem.W.OpenLaw} {n k : Nat} {q : Program} {loose : List Str} {XP : (Str → Option Value) → Heap → Prop} {YP : World → Heap → Prop} {d : DefRec} {K : Params → PySem.W.Frag} {sp : PySem.W.Frag → Sp} {x : Str}
    (hn : l.most = some n) (hn2 : n ≤ sizeLine) (hdf : d.params.defaults = []) (hr : Room k callerA) (hY : ∀ (w : World) (h : Heap), YP w h → (K w.params).In h)
    (F : ∀ (w : World) (mg : Str → Option Value) (fa : Addr) (h : Heap), (K w.params).In h → h.Ns mainGlobals mg → mg d.name = some (.ref fa) →
      ∃ fd : FuncData, (∀ (s : Shared) (u : Value), BindsTo s fd ⟨[u], []⟩ [(x, u)]) ∧ ∀ base : Heap, (K w.params).In base → base.Ns mainGlobals mg → FnG l.prog w (K w.params) mg base CX0 k fa fd [x] (sp (K w.params)))
    (hsp : ∀ (K : PySem.W.Frag) (H : Hp) (a : Addr) (ns : List Int), ns.length ≤ n → SqL K H a (ns.map V.int) → sp K [.ref a] H (fun v _ => v = .bl true) fun _ _ _ => False) :
    PySem.W.WalkO q loose XP YP l.row.toRowW d [] (fun f vs => PySem.call f vs) := by
  refine Att.attach_call hn hdf fun w s₀ s₁ mg mb fa o pm cd dc a vs ns G Y ho hd hcd hmg hobj hints hlen hg => ?_
  obtain ⟨fd, hb, hF⟩ := F w mg fa _ (hY w _ Y) G.T.g hmg
  exact lawG_call (hY w _ Y) G.T.g G.T.b G.T.builtins G.T.nolimit hg hobj hints (Nat.le_trans hlen hn2) hr hF hb fun H _ hS => hsp _ H a ns hlen hS
end Br

set_option Elab.async false
set_option linter.all false
set_option maxRecDepth 100000
set_option maxHeartbeats 4000000
/-! t < u of tuples whose items are whole numbers and texts, place by place of one kind. -/
namespace Br
open PySem PySem.Spec PyProof.Rows L2
def ltKey : Key → Key → Bool
  | .inl a, .inl b => decide (a < b)
  | .inr x, .inr y => decide (x.cps.toList < y.cps.toList)
  | _, _ => false
def lexK : List Key → List Key → Bool
  | x :: xs, y :: ys => if x = y then lexK xs ys else ltKey x y
  | [], _ :: _ => true
  | _, _ => false
/-- of one kind -/
def kin : Key → Key → Bool
  | .inl _, .inl _ => true
  | .inr _, .inr _ => true
  | _, _ => false
abbrev KeyV (k : Key) (u : Value) : Prop := RelV (kV k) u
theorem key_eqAt (Ar : Around) (s : Shared) {x y : Key} {u v : Value} (hu : KeyV x u) (hv : KeyV y v) (k : kin x y = true) : ∃ e, SeqAt.EqAt Ar s u v e ∧ (e = true ↔ x = y) := by
  match x, y, k, hu, hv with
  | .inl a, .inl b, _, hu, hv =>
    obtain ⟨t, rfl⟩ := hu
    obtain ⟨t', rfl⟩ := hv
    exact ⟨(a == b), SeqAt.EqAt.int_int a t b t', by simp⟩
  | .inr a, .inr b, _, hu, hv =>
    obtain ⟨t, rfl⟩ := hu
    obtain ⟨t', rfl⟩ := hv
    refine ⟨decide (a = b), ?_, by simp⟩
    intro prog w E Q h
    exact wpAny_eqBool_str h
theorem key_lt (Ar : Around) (s : Shared) {x y : Key} {u v : Value} (hu : KeyV x u) (hv : KeyV y v) (k : kin x y = true) (prog : Program) (w : World) (E : Value → Shared → Prop) (Q : Value → Shared → Prop) (h : Q (.bool (ltKey x y)) s) :
    wpAny (model prog w) Ar (richCompare .Lt u v) Q E s := by
  match x, y, k, hu, hv with
  | .inl a, .inl b, _, hu, hv =>
    obtain ⟨t, rfl⟩ := hu
    obtain ⟨t', rfl⟩ := hv
    exact (PyProof.Rows.lt_int h : wpAny (model prog w) Ar (compareOp .Lt (.int a t) (.int b t')) Q E s)
  | .inr a, .inr b, _, hu, hv =>
    obtain ⟨t, rfl⟩ := hu
    obtain ⟨t', rfl⟩ := hv
    exact (PySem.P.lt_str h : wpAny (model prog w) Ar (compareOp .Lt (.str a t) (.str b t')) Q E s)
section
open PySem.SeqAt
open PySem.AutoSeq1 (wpAny_loadPart')
open PySem.MeetsSeq PySem.MeetsSeq2 PySem.MeetsSeq3
theorem tuple_lt_keys (l b : Addr) (items items2 : Array Value) (n n2 : Nat) (dd dd2 : Option Addr) (sl sl2 : Array (Option Value)) (ks ms : List Key) (hi : Paired KeyV ks items.toList) (hj : Paired KeyV ms items2.toList) (hk : Paired (fun x y => kin x y = true) ks ms) :
    Meets (Builtin.«tuple.__lt__» ⟨[.ref l, .ref b], []⟩)
      (fun _ R s => s.heap.get? l = some { cls := .type "tuple", dict := dd, data := .seq items n, slots := sl } ∧ s.heap.get? b = some { cls := .type "tuple", dict := dd2, data := .seq items2 n2, slots := sl2 } ∧ R (.ok (.ret (.bool (lexK ks ms)))) s) :=
  .of_wp fun prog w Ar R s h => by
    obtain ⟨hp, gs, dr, tk, os⟩ := s
    obtain ⟨hl, hb, h⟩ := h
    have f2 := AutoSeq1.sub_tuple_tuple
    have z1 : items.size = ks.length := by rw [hi.length]; simp
    have z2 : items2.size = ms.length := by rw [hj.length]; simp
    have z3 := hk.length
    wp_walk using wpAny_loadPart' hl, wpAny_loadPart' hb, wpAny_forIn_list _ (fun rest q s' => q.1 = none ∧ s' = ⟨hp, gs, dr, tk, os⟩ ∧ ∃ (vs ws : List Value) (ks' ms' : List Key), rest = vs.zip ws ∧
      Paired KeyV ks' vs ∧ Paired KeyV ms' ws ∧ Paired (fun x y => kin x y = true) ks' ms' ∧ R (.ok (.ret (.bool (lexK ks' ms')))) ⟨hp, gs, dr, tk, os⟩) _
    case turn =>
      rintro ⟨y, x⟩ rest q s' ⟨hq, rfl, vs, ws, ks', ms', hz, hvi, hwi, hkk, hR⟩
      cases hkk with
      | nil =>
        cases hvi
        cases hz
      | cons kk hkk' =>
        cases hvi with
        | cons a hvi' =>
          cases hwi with
          | cons c hwi' =>
            rw [List.zip_cons_cons] at hz
            injection hz with hyx hrest
            injection hyx with hy hx
            subst hy hx
            unfold lexK at hR
            obtain ⟨e, he, hiff⟩ := key_eqAt Ar.in1 ⟨hp, gs, dr, tk, os⟩ a c kk
            refine wpAny_bind (he prog w _ _ ?_)
            cases e with
            | true =>
              rw [if_pos (hiff.mp rfl)] at hR
              wp_walk
              exact ⟨rfl, rfl, _, _, _, _, hrest, hvi', hwi', hkk', hR⟩
            | false =>
              rw [if_neg (fun z => absurd (hiff.mpr z) Bool.false_ne_true)] at hR
              have hri := key_lt Ar.in1 ⟨hp, gs, dr, tk, os⟩ a c kk prog w
              wp_walk using hri
              exact ⟨_, rfl, by simpa using hR⟩
    case fin =>
      rintro ⟨b1, b2⟩ s' ⟨hq, rfl, vs, ws, ks', ms', hz, hvi, hwi, hkk, hR⟩
      simp only at hq
      subst hq
      have hv : lexK ks' ms' = decide (items.size < items2.size) := by
        have e : decide (items.size < items2.size) = false := decide_eq_false (by omega)
        rw [e]
        cases hkk with
        | nil => rfl
        | cons kk hkk' =>
          cases hvi
          cases hwi
          rw [List.zip_cons_cons] at hz
          cases hz
      rw [hv] at hR
      wp_walk
      exact ⟨_, rfl, by simpa [Builtin.Tuple.tupleCompareSizes] using hR⟩
    case h =>
      exact ⟨rfl, rfl, items.toList, items2.toList, ks, ms, rfl, hi, hj, hk, h⟩
end
section
variable {X : Cx}
theorem keys_of : ∀ {ks : List Key} {us : List Value}, Vals (ks.map kV) us → Paired KeyV ks us
  | [], _, .nil => .nil
  | _ :: _, _, .cons r t => .cons r (keys_of t)
def rLtN (K : PySem.W.Frag) : R2 := fun x y H Q => ∃ (a b : Addr) (ks ms : List Key), x = .ref a ∧ y = .ref b ∧ SqT K H a (ks.map kV) ∧ SqT K H b (ms.map kV) ∧ Paired (fun x y => kin x y = true) ks ms ∧ Q (.bl (lexK ks ms)) H
/-- t < u -/
theorem op_ltN0 (hu : X.A.units < cLine) : OpR X (compareOp .Lt) (fun x y H Q => ∃ (a b : Addr) (ks ms : List Key), x = .ref a ∧ y = .ref b ∧ SqT X.K H a (ks.map kV) ∧ SqT X.K H b (ms.map kV) ∧ Paired (fun x y => kin x y = true) ks ms ∧ Q (.bl (lexK ks ms)) H) := by
  intro pins s σ H x y v u Q I rx ry h
  obtain ⟨a, b, ks, ms, rfl, rfl, ha, hb, hk, q⟩ := h
  cases rx
  cases ry
  obtain ⟨its, r1, p1, _⟩ := I.tuple ha
  obtain ⟨its2, r2, p2, _⟩ := I.tuple hb
  obtain ⟨⟨cls, dd, data, sl⟩, ho, hc, n, hd⟩ := p1
  obtain ⟨⟨cls2, dd2, data2, sl2⟩, ho2, hc2, n2, hd2⟩ := p2
  simp only at hc hd hc2 hd2
  subst hc hd hc2 hd2
  exact richCompare_meets_room (op := .Lt) ⟨_, ho, rfl⟩ ⟨_, ho2, rfl⟩ PySem.F.slot_tuple_lt PySem.F.entry_tuple_lt (PySem.F.args_tuple_lt_2 _ _) (tuple_lt_keys a b _ _ n n2 dd dd2 sl sl2 ks ms (by simpa using keys_of r1) (by simpa using keys_of r2) hk)
    ⟨ho, ho2, show Value.bool (lexK ks ms) ≠ Value.notImplemented ∧ _ from ⟨(fun x => nomatch x), ⟨.bl (lexK ks ms), H, I, rfl, q⟩⟩⟩ hu
/-- the same, the written part by its name (for use within a comprehension) -/
theorem op_ltN (K : PySem.W.Frag) (hu : X.A.units < cLine) (hK : X.K = K := by rfl) : OpR X (compareOp .Lt) (rLtN K) := by
  subst hK
  exact op_ltN0 hu
theorem ix_tupK (K : PySem.W.Frag) (hK : X.K = K := by rfl) : IxR X (rIxT K) := by
  subst hK
  exact ix_tup
theorem ix_listK (K : PySem.W.Frag) (hK : X.K = K := by rfl) : IxR X (rIxL K) := by
  subst hK
  exact ix_list
theorem op_eqDK (K : PySem.W.Frag) (hu : X.A.units + 64 < cLine) (hK : X.K = K := by rfl) : OpR X (compareOp .Eq) (rEqD K) := by
  subst hK
  exact op_eqD hu
theorem op_neDK (K : PySem.W.Frag) (hu : X.A.units + 64 < cLine) (hK : X.K = K := by rfl) : OpR X (compareOp .NotEq) (rNeD K) := by
  subst hK
  exact op_neD hu
end
end Br

set_option Elab.async false
set_option linter.all false
set_option maxRecDepth 100000
set_option maxHeartbeats 4000000
/-! Texts split by one sign: the parts are the one way to write the text as parts without the sign, with the sign between. -/
namespace Br
open PySem PySem.Spec PyProof.Rows L2
def glue1 (c : Nat) : List (List Nat) → List Nat
  | [] => []
  | [a] => a
  | a :: b :: r => a ++ c :: glue1 c (b :: r)
theorem app_sep {c : Nat} : ∀ {a b x y : List Nat}, c ∉ a → c ∉ b → a ++ c :: x = b ++ c :: y → a = b ∧ x = y
  | [], [], _, _, _, _, h => by
    simp only [List.nil_append, List.cons.injEq, true_and] at h
    exact ⟨rfl, h⟩
  | [], b :: bs, _, _, _, hb, h => by
    simp only [List.nil_append, List.cons_append, List.cons.injEq] at h
    exact absurd (h.1 ▸ List.mem_cons_self) hb
  | a :: as, [], _, _, ha, _, h => by
    simp only [List.nil_append, List.cons_append, List.cons.injEq] at h
    exact absurd (h.1 ▸ List.mem_cons_self) ha
  | a :: as, b :: bs, _, _, ha, hb, h => by
    simp only [List.cons_append, List.cons.injEq] at h
    obtain ⟨h1, h2⟩ := app_sep (fun z => ha (List.mem_cons_of_mem _ z)) (fun z => hb (List.mem_cons_of_mem _ z)) h.2
    exact ⟨by rw [h.1, h1], h2⟩
theorem glue1_inj {c : Nat} : ∀ {ps qs : List (List Nat)}, ps ≠ [] → qs ≠ [] → (∀ p ∈ ps, c ∉ p) → (∀ p ∈ qs, c ∉ p) → glue1 c ps = glue1 c qs → ps = qs
  | [], _, h, _, _, _, _ => absurd rfl h
  | _, [], _, h, _, _, _ => absurd rfl h
  | [a], [b], _, _, _, _, h => by
    have h' : a = b := h
    rw [h']
  | [a], b :: b' :: r, _, _, ha, _, h => by
    have h' : a = b ++ c :: glue1 c (b' :: r) := h
    exact absurd (h' ▸ List.mem_append_right _ List.mem_cons_self) (ha a List.mem_cons_self)
  | a :: a' :: r, [b], _, _, _, hb, h => by
    have h' : a ++ c :: glue1 c (a' :: r) = b := h
    exact absurd (h' ▸ List.mem_append_right _ List.mem_cons_self) (hb b List.mem_cons_self)
  | a :: a' :: r, b :: b' :: t, _, _, ha, hb, h => by
    obtain ⟨h1, h2⟩ := app_sep (ha a List.mem_cons_self) (hb b List.mem_cons_self) (show a ++ c :: glue1 c (a' :: r) = b ++ c :: glue1 c (b' :: t) from h)
    rw [h1, glue1_inj (List.cons_ne_nil _ _) (List.cons_ne_nil _ _) (fun p hp => ha p (List.mem_cons_of_mem _ hp)) (fun p hp => hb p (List.mem_cons_of_mem _ hp)) h2]
theorem codes_app (x y : Str) : (x ++ y).cps.toList = x.cps.toList ++ y.cps.toList := Array.toList_append
theorem join_codes (c : Nat) : ∀ ps : List Str, (Str.join ⟨#[c]⟩ ps).cps.toList = glue1 c (ps.map fun p => p.cps.toList)
  | [] => rfl
  | [x] => rfl
  | x :: y :: r => by
    show (x ++ ⟨#[c]⟩ ++ Str.join ⟨#[c]⟩ (y :: r)).cps.toList = _
    rw [codes_app, codes_app, join_codes c (y :: r), List.append_assoc]
    rfl
/-- the parts, put together again -/
theorem split_codes (z : Str) (c : Nat) : glue1 c ((Txt.split z ⟨#[c]⟩).map fun p => p.cps.toList) = z.cps.toList := by
  unfold Txt.split
  split
  · rfl
  · split
    · rfl
    · rw [← join_codes, ← StrLaws.glued_eq_join]
      exact congrArg (fun s : Str => s.cps.toList) (StrLaws.glued_between_self z ⟨#[c]⟩ (z.length + 1))
theorem split_ne (z : Str) (c : Nat) : Txt.split z ⟨#[c]⟩ ≠ [] := by
  unfold Txt.split
  split
  · exact List.cons_ne_nil _ _
  · split
    · exact List.cons_ne_nil _ _
    · exact fun h => by
        have := length_partsBetween z (Builtin.Str.occurrences z ⟨#[c]⟩ 0 z.length (z.length + 1)) (⟨#[c]⟩ : Str).length
        rw [h] at this
        cases this
/-- the one way -/
theorem split_of {c : Nat} {ps : List Str} (hn : ps ≠ []) (hf : ∀ p ∈ ps, c ∉ p.cps.toList) {z : Str} (hz : z.cps.toList = glue1 c (ps.map fun p => p.cps.toList)) : Txt.split z ⟨#[c]⟩ = ps := by
  have e := glue1_inj (c := c) (ps := (Txt.split z ⟨#[c]⟩).map fun p => p.cps.toList) (qs := ps.map fun p => p.cps.toList) (by simpa using split_ne z c) (by simpa using hn)
    (fun p hp => by obtain ⟨q, hq, rfl⟩ := List.mem_map.mp hp; exact StrLaws.split_free z c q hq) (fun p hp => by obtain ⟨q, hq, rfl⟩ := List.mem_map.mp hp; exact hf q hq) (by rw [split_codes, hz])
  have inj : ∀ {as bs : List Str}, as.map (fun p => p.cps.toList) = bs.map (fun p => p.cps.toList) → as = bs := by
    intro as
    induction as with
    | nil =>
      intro bs h
      cases bs with
      | nil => rfl
      | cons b bs => cases h
    | cons a as ih =>
      intro bs h
      cases bs with
      | nil => cases h
      | cons b bs =>
        simp only [List.map_cons, List.cons.injEq] at h
        have e : a = b := by
          cases a; cases b
          simp only [Str.mk.injEq]
          exact Array.toList_inj.mp h.1
        rw [e, ih h.2]
  exact inj e
/-- x, the sign, y -/
theorem split_two {c : Nat} {x y : Str} (hx : c ∉ x.cps.toList) (hy : c ∉ y.cps.toList) : Txt.split (x ++ ⟨#[c]⟩ ++ y) ⟨#[c]⟩ = [x, y] := by
  refine split_of (List.cons_ne_nil _ _) (fun p hp => ?_) ?_
  · rcases List.mem_cons.mp hp with rfl | hp
    · exact hx
    · rw [List.mem_singleton.mp hp]; exact hy
  · rw [codes_app, codes_app, List.append_assoc]
    rfl
end Br

set_option Elab.async false
set_option linter.all false
set_option maxRecDepth 100000
set_option maxHeartbeats 4000000
/-! t[::-1] of a tuple of two items or more. -/
namespace Br
open PySem PySem.Spec PyProof.Rows L2
theorem places_back (n : Nat) : Builtin.Slice.slicePlaces ((n : Int) - 1) (-1) (-1) = n := by
  unfold Builtin.Slice.slicePlaces
  split
  all_goals first | omega | (simp; omega) | skip
theorem adjust_back (n : Nat) : Builtin.Slice.sliceAdjust none none (-1) (n : Int) = ((n : Int) - 1, -1) := by
  unfold Builtin.Slice.sliceAdjust
  rfl
theorem range_pick {α : Type} : ∀ l : List α, (List.range l.length).filterMap (fun m => l[m]?) = l
  | [] => rfl
  | a :: l => by
    rw [List.length_cons, List.range_succ_eq_map, List.filterMap_cons, List.filterMap_map]
    show a :: (List.range l.length).filterMap (fun m => l[m]?) = a :: l
    rw [range_pick l]
theorem fm_congr {α β : Type} {f g : α → Option β} : ∀ {l : List α}, (∀ a ∈ l, f a = g a) → l.filterMap f = l.filterMap g
  | [], _ => rfl
  | a :: l, h => by
    rw [List.filterMap_cons, List.filterMap_cons, h a List.mem_cons_self, fm_congr fun b hb => h b (List.mem_cons_of_mem _ hb)]
theorem pick_back (xs : Array Value) : ((List.range xs.size).filterMap fun (m : Nat) => xs[(((xs.size : Int) - 1) + (m : Int) * (-1)).toNat]?).toArray = xs.toList.reverse.toArray := by
  congr 1
  have e := range_pick xs.toList.reverse
  rw [List.length_reverse, Array.length_toList] at e
  refine Eq.trans ?_ e
  refine fm_congr fun m hm => ?_
  have hm' : m < xs.size := List.mem_range.mp hm
  rw [List.getElem?_reverse (by rw [Array.length_toList]; exact hm'), Array.length_toList]
  have ei : (((xs.size : Int) - 1) + (m : Int) * (-1)).toNat = xs.size - 1 - m := by omega
  rw [ei]
  exact (Array.getElem?_toList ..).symm
section
open HT
variable {prog : Program} {w : World} {A : Around} {E : Value → Shared → Prop} {s : Shared}
theorem applied_back {sl : Addr} {vl vu vs : Value} {n : Nat} {Q : Int × Int × Nat → Shared → Prop} (hs : s.heap.IsSliceOf sl vl vu vs) (pl : IsPart vl none) (pu : IsPart vu none) (pk : IsPart vs (some (-1)))
    (h : Q ((n : Int) - 1, -1, n) s) : wpAny (model prog w) A (Builtin.Slice.sliceApplied (.ref sl) (pure (n : Int))) Q E s := by
  obtain ⟨os, hos, hcs, hds⟩ := id hs
  unfold Builtin.Slice.sliceApplied Builtin.Slice.sliceFields
  refine wpAny_bind (wpAny_bind (wpAny_field hos hds (x := vl) rfl (wpAny_bind (wpAny_field hos hds (x := vu) rfl (wpAny_bind (wpAny_field hos hds (x := vs) rfl (wpAny_pure ?g)))))))
  case g =>
  refine wpAny_bind (slicePart_ pk ?g1)
  case g1 =>
  show wpAny _ _ (if ((-1 : Int) == 0) = true then _ else _) _ _ s
  rw [if_neg (by decide)]
  refine wpAny_bind (slicePart_ pl (wpAny_bind (slicePart_ pu (wpAny_bind (wpAny_pure ?g2)))))
  case g2 =>
  show wpAny _ _ (match Builtin.Slice.sliceAdjust none none (-1) (n : Int) with | (lo, hi) => pure (lo, (-1 : Int), Builtin.Slice.slicePlaces lo hi (-1))) _ _ s
  rw [adjust_back]
  show wpAny _ _ (pure ((n : Int) - 1, (-1 : Int), Builtin.Slice.slicePlaces ((n : Int) - 1) (-1) (-1))) _ _ s
  rw [places_back]
  exact wpAny_pure h
theorem getItem_tuple_back {t sl : Addr} {items : Array Value} {vl vu vs : Value} {Q : Value → Shared → Prop} (ht : IsTup s.heap t items) (hs : s.heap.IsSliceOf sl vl vu vs) (pl : IsPart vl none) (pu : IsPart vu none) (pk : IsPart vs (some (-1)))
    (h : Q (.ref s.heap.objs.size) { s with heap := s.heap.push { cls := .type "tuple", data := .seq items.toList.reverse.toArray } }) (hsz : items.size ≤ sizeLine) : wpAny (model prog w) A (getItem (.ref t) (.ref sl)) Q E s := by
  have hrev : sizeOk (.seq items.toList.reverse.toArray) := by
    show items.toList.reverse.toArray.size ≤ sizeLine
    rw [List.size_toArray, List.length_reverse, Array.length_toList]
    exact hsz
  obtain ⟨os, hos, hcs, hds⟩ := id hs
  have tys : s.TypeIs (.ref sl) "slice" := ⟨os, hos, hcs⟩
  unfold getItem
  try with_reducible refine wpAny_holding ?_
  first | refine wpAny_bind (wpAny_pure ?g0) | skip
  try case g0 => skip
  refine wpAny_bind (wpAny_sequenceKey ht.typeIs (by decide) ?_)
  refine wpAny_bind (wpAny_callSpecial?_slot (name := Str.ofString "__getitem__") ht.typeIs PyProof.Rows.slot_tuple_getitem (wpAny_call_entry PyProof.Rows.slot_tuple_getitem ht.typeIs entry_tuple_getitem ?g1 (args_tuple_getitem _ _)))
  case g1 =>
  show wpAny _ _ (Builtin.Tuple.tupleItemsOf (.ref t) >>= _) _ _ s
  refine wpAny_bind (tupleItemsOf_ ht (wpAny_bind (wpAny_typeOf tys ?g2)))
  case g2 =>
  rw [if_pos (by decide)]
  refine wpAny_bind (applied_back (n := items.size) hs pl pu pk ?g3)
  case g3 =>
  show wpAny _ _ (if (((items.size : Int) - 1) == 0 && (-1 : Int) == 1 && items.size == items.size) = true then _ else _) _ _ s
  rw [if_neg (by rw [show ((-1 : Int) == 1) = false from rfl, Bool.and_false, Bool.false_and]; exact Bool.false_ne_true), pick_back]
  first
    | exact wpAny_bind (m := Builtin.Tuple.tupleExact _) (wpAny_newObj_type (wpAny_pure ⟨_, rfl, wpAny_pure h⟩) hrev)
    | exact wpAny_bind (m := Builtin.Tuple.tupleExact _) (wpAny_newObj_type (wpAny_bind (wpAny_pure (wpAny_pure ⟨_, rfl, wpAny_pure h⟩))) hrev)
    | exact wpAny_bind (wpAny_bind (m := Builtin.Tuple.tupleExact _) (wpAny_newObj_type (wpAny_pure (wpAny_pure ⟨_, rfl, wpAny_pure h⟩)) hrev))
    | exact wpAny_bind (wpAny_bind (m := Builtin.Tuple.tupleExact _) (wpAny_newObj_type (wpAny_pure ⟨_, rfl, wpAny_pure h⟩) hrev))
end
section
variable {X : Cx}
/-- t[::-1] -/
def tRevT (K : PySem.W.Frag) (te : TE) : TE := fun σ H Q => te σ H fun x H1 => ∃ a xs, x = .ref a ∧ SqT K H1 a xs ∧ ∀ p, H1 p = none → Q (.ref p) (upd H1 p (.tup xs.reverse))
theorem pe_revT {e : Expr} {te : TE} {k : Nat} {p1 p2 p3 pos : Pos} (he : PE X e te) : PE X (.Subscript e (.Slice none none (some (.UnaryOp .USub (.Constant (.int 1) k p1) p2)) p3) pos) (tRevT X.K te) := by
  constructor
  intro pins s σ H Q I h
  refine Subscript_ (thn (he.run pins s σ H _ I h) fun v s1 hh => ?_)
  obtain ⟨x, H1, I1, r1, a, xs, ex, hx, q⟩ := hh
  subst ex
  cases (show v = Value.ref a from r1)
  have back : PO X (some (.UnaryOp .USub (.Constant (.int 1) k p1) p2)) (tPart (tUn (rU fun i => .int (-i)) (tC (.int 1)))) := po_some (pe_un un_neg pe_int)
  refine wpAny_Slice (thn (po_none.run pins s1 σ H1 (fun o H2 => o = none ∧ H2 = H1) I1 ⟨rfl, rfl⟩) fun vl s2 hl => ?_)
  obtain ⟨l, H2, I2, pl, rfl, rfl⟩ := hl
  refine thn (po_none.run pins s2 σ H2 (fun o H3 => o = none ∧ H3 = H2) I2 ⟨rfl, rfl⟩) fun vu s3 hu => ?_
  obtain ⟨u, H3, I3, pu, rfl, rfl⟩ := hu
  refine thn (back.run pins s3 σ H3 (fun o H4 => o = some (-1) ∧ H4 = H3) I3 ⟨1, rfl, -1, rfl, rfl, rfl⟩) fun vs s4 hk => ?_
  obtain ⟨o, H4, I4, pk, rfl, rfl⟩ := hk
  have I5 : Inv X pins σ H4 { s4 with heap := s4.heap.push { cls := .type "slice", data := .fields #[vl, vu, vs] } } := I4.kept (t' := s4.toks) fun b ob z => Heap.get?_push_of_some _ z
  obtain ⟨its, r, ht, hz⟩ := I5.tuple hx
  have hlen := r.length
  show wpAny (model X.prog X.w) X.A (subscriptTail e (.Slice none none (some (.UnaryOp .USub (.Constant (.int 1) k p1) p2)) p3) (.ref a) (.ref s4.heap.objs.size)) (EP X pins σ Q) X.xe { s4 with heap := s4.heap.push { cls := .type "slice", data := .fields #[vl, vu, vs] } }
  refine tail_any (ops := [.ref a, .ref s4.heap.objs.size]) ht.typeIs PyProof.Rows.slot_tuple_getitem.lookup ?_ (by with_unfolding_all rfl)
  refine getItem_tuple_back ht (Heap.IsSliceOf.new _ vl vu vs) pl pu pk ?_ (by rw [List.size_toArray]; omega)
  refine ⟨.ref _, _, I5.laid (t' := s4.toks) (o := .tup xs.reverse) (fun b ob z => Heap.get?_push_of_some _ z) (Nat.le_refl _) ?_, rfl, q _ (I5.hok.fresh (Nat.le_refl _))⟩
  exact ⟨by rw [List.length_reverse]; exact hz, its.reverse, r.reverse, IsTup.new _ _⟩
end
end Br

set_option Elab.async false
set_option linter.all false
set_option maxRecDepth 100000
set_option maxHeartbeats 4000000
/-! sorted(xs), xs a list of tuples (text, whole number). -/
namespace Br
open PySem PySem.Spec PyProof.Rows L2
def nkeys (n : Str × Int) : List Key := [.inr n.1, .inl n.2]
def ltN (x y : Str × Int) : Bool := lexK (nkeys x) (nkeys y)
/-- a tuple (text, number) stands at v -/
def NameAt (K : PySem.W.Frag) (H : Hp) (v : V) (n : Str × Int) : Prop := ∃ b, v = .ref b ∧ SqT K H b ((nkeys n).map kV)
def rawKey (n : Str × Int) : List (Int ⊕ List Nat) := [.inr n.1.cps.toList, .inl n.2]
theorem str_ext {x y : Str} (h : x.cps.toList = y.cps.toList) : x = y := by
  cases x; cases y
  simp only [Str.mk.injEq]
  exact Array.toList_inj.mp h
theorem raw_lt (x y : Str × Int) : (listOrd itemOrd).blt (rawKey x) (rawKey y) = ltN x y := by
  obtain ⟨x, n⟩ := x
  obtain ⟨y, m⟩ := y
  show (decide (x.cps.toList < y.cps.toList) || (!decide (y.cps.toList < x.cps.toList) && (decide (n < m) || (!decide (m < n) && false)))) = (if (Sum.inr x : Key) = Sum.inr y then (if (Sum.inl n : Key) = Sum.inl m then false else decide (n < m)) else decide (x.cps.toList < y.cps.toList))
  rw [Bool.and_false, Bool.or_false]
  by_cases e : x = y
  · subst e
    have irr : decide (x.cps.toList < x.cps.toList) = false := decide_eq_false (List.lt_irrefl _)
    rw [if_pos rfl, irr]
    by_cases k : n = m
    · subst k
      rw [if_pos rfl]
      simp
    · rw [if_neg (fun z => k (Sum.inl.inj z))]
      rfl
  · rw [if_neg (fun z => e (Sum.inr.inj z))]
    by_cases h : x.cps.toList < y.cps.toList
    · rw [decide_eq_true h]
      rfl
    · have h2 : y.cps.toList < x.cps.toList := by
        have h3 : y.cps.toList ≤ x.cps.toList := List.not_lt.mp h
        rcases Std.le_iff_lt_or_eq.mp h3 with z | z
        · exact z
        · exact absurd (str_ext z.symm) e
      rw [decide_eq_false h, decide_eq_true h2]
      rfl
theorem tups_of {h : Heap} {shape : Nat → Bool} : ∀ {vs : List Value}, (∀ v ∈ vs, ∃ f, TupOf h shape v f) → ∃ fs, TupsOf h shape vs fs
  | [], _ => ⟨[], .nil⟩
  | v :: vs, k => by
    obtain ⟨f, hf⟩ := k v List.mem_cons_self
    obtain ⟨fs, hfs⟩ := tups_of fun u hu => k u (List.mem_cons_of_mem _ hu)
    exact ⟨f :: fs, .cons hf hfs⟩
section
variable {prog : Program} {w : World} {A : Around} {E : Value → Shared → Prop} {s : Shared}
/-- the heap with a new list of these at its end -/
def collected (h : Heap) (items : Array Value) : Heap := (h.push { cls := .type "list", data := .seq ([] : List Value).toArray }).update h.objs.size (Obj.mapSeq (· ++ items))
/-- collect, of a list or tuple, with the heap behind it -/
theorem collect_exact {Q : List Value → Shared → Prop} (l : Addr) {T : String} {o : Obj} {items : Array Value} {n : Nat} (hT : T = "list" ∨ T = "tuple") (ho : s.heap.get? l = some o) (hc : o.cls = .type T) (hd : o.data = .seq items n)
    (q : Q items.toList { s with heap := collected s.heap items }) (hsz : items.size ≤ sizeLine) : wpAny (model prog w) A (collect (.ref l)) Q E s := by
  unfold collect
  refine wpAny_bind (wpAny_runValue (codeAny_builtin F.entry_proto_collect ?c0))
  case c0 =>
  rw [Around.under_plainId F.plain_proto_collect _]
  show wpAny _ A.in1 (newList [] >>= fun x => again (.builtin "list.__iadd__" ⟨[x, .ref l], []⟩)) _ _ s
  refine wpAny_bind (wpAny_newObj_type (wpAny_pure ⟨plainId_quiet F.plain_list_iadd _, codeAny_builtin F.entry_list_iadd ?c1⟩))
  case c1 =>
  rw [Around.under_plainId F.plain_list_iadd _]
  show wpAny _ A.in1 (Builtin.List.listExtendWith (.ref s.heap.objs.size) (.ref l) (.ref s.heap.objs.size)) _ _ _
  have at0 : (s.heap.push { cls := .type "list", data := .seq ([] : List Value).toArray }).get? s.heap.objs.size = some { cls := .type "list", data := .seq #[] 0 } := Heap.get?_push_size _ rfl
  have at1 := Heap.get?_update_self (Obj.mapSeq (· ++ items)) at0 rfl
  have last : wpAny (model prog w) A (match Value.ref s.heap.objs.size with
      | Value.ref a => do
        match (← load a).data with
          | Data.seq xs _ => pure xs.toList
          | _ => unsupported "internal:collect"
      | _ => unsupported "internal:collect") Q E { s with heap := collected s.heap items } := by
    show wpAny _ A (load s.heap.objs.size >>= _) _ _ _
    refine wpAny_bind (wpAny_load at1 (wpAny_pure ?c2))
    case c2 =>
    show Q ((#[] : Array Value) ++ items).toList _
    rw [show ((#[] : Array Value) ++ items).toList = items.toList by simp]
    exact q
  refine wpAny_mono (wpAny_extend_seq (hsz := hsz) (A := A) (R := fun r s' => r = .ok (.ret (.ref s.heap.objs.size)) ∧ s' = { s with heap := collected s.heap items }) (s := { s with heap := s.heap.push { cls := .type "list", data := .seq ([] : List Value).toArray } }) _ l _ 0 hT at0 (Heap.get?_push_of_some _ ho) hc hd ⟨rfl, rfl⟩) (fun fin s' h => ?c3) (fun e s' h => absurd h.1 (by simp))
  case c3 =>
  cases fin with
  | done f =>
    obtain ⟨e, rfl⟩ := h
    cases e
    exact last
  | again c' =>
    refine ⟨h.1, codeAny_mono h.2 fun r s'' hr => ?_⟩
    obtain ⟨rfl, rfl⟩ := hr
    exact last
theorem collected_old {h : Heap} {items : Array Value} {b : Addr} {o : Obj} (e : h.get? b = some o) : (collected h items).get? b = some o :=
  (Heap.get?_update_other _ _ (Nat.ne_of_gt (Heap.lt_size e))).trans (Heap.get?_push_of_some _ e)
theorem collected_size {h : Heap} {items : Array Value} : (collected h items).objs.size = h.objs.size + 1 := by
  unfold collected
  rw [Heap.size_update, size_push']
theorem sorted_tupsT {shape : Nat → Bool} {l : Addr} {o : Obj} {vs fs : List Value} {n : Nat} {Q : Value → Shared → Prop} (ho : s.heap.get? l = some o) (hc : o.cls = .type "tuple") (hd : o.data = .seq vs.toArray n)
    (ht : ∀ h2 : Heap, (∀ b o, s.heap.get? b = some o → h2.get? b = some o) → TupsOf h2 shape vs fs) (hk : ∀ h2 : Heap, (∀ b o, s.heap.get? b = some o → h2.get? b = some o) → ∀ v, v ∈ vs → ∃ x, G.tupKeyC h2 shape v = some x) (hL : vs.length ≤ sizeLine)
    (h : ∀ (h1 : Heap) (st' : SortSt), (∀ b o, s.heap.get? b = some o → h1.get? b = some o) → h1.objs.size = s.heap.objs.size + 2 → h1.get? (s.heap.objs.size + 1) = some (seqObj "list" vs.toArray 0) → (arrOf st').Perm (pairsOf vs) → SortedToK (G.tupKindC h1 shape) (arrOf st') (pairsOf vs).size →
      Q (.ref (s.heap.objs.size + 1)) { s with heap := sortedHeap h1 (s.heap.objs.size + 1) vs ((arrOf st').map (·.2)) }) : wpAny (model prog w) A (call (.builtin "sorted") [.ref l]) Q E s := by
  refine Calls.call_function_entry kind_sorted plain_sorted entry_sorted (args_sorted1 _) ?_
  unfold Builtin.«sorted»
  refine wpAny_bind (m := checkCount "sorted" 1 1 _) (wpAny_pure (wpAny_bind (collect_exact l (.inr rfl) ho hc hd (wpAny_bind (wpAny_newList ?g)) (by rw [List.size_toArray]; exact hL))))
  case g =>
  have k1 : ∀ b o, s.heap.get? b = some o → ((collected s.heap vs.toArray).push (seqObj "list" vs.toArray 0)).get? b = some o := fun b o e => Heap.get?_push_of_some _ (collected_old e)
  have hoL : ((collected s.heap vs.toArray).push (seqObj "list" vs.toArray 0)).get? (s.heap.objs.size + 1) = some (seqObj "list" vs.toArray 0) := by
    rw [← collected_size (items := vs.toArray)]
    exact Heap.get?_push_size _ rfl
  show wpAny _ _ _ _ _ { s with heap := (collected s.heap vs.toArray).push (seqObj "list" vs.toArray 0) }
  rw [collected_size]
  refine wpAny_bind (wpAny_holding (wpAny_call_entry slot_list_sort ⟨_, hoL, rfl⟩ entry_list_sort (G.list_sort_tups hoL (ht _ k1) (hk _ k1) hL fun st' a1 a2 a3 => ⟨_, rfl, ?r⟩) (args_list_sort _)))
  case r => exact wpAny_pure ⟨_, rfl, h _ st' k1 (by rw [size_push', collected_size]) hoL a1 a2⟩
end
section
variable {X : Cx}
def rSortedN (K : PySem.W.Frag) : List V → Hp → VK → Prop := fun vs H Q => ∃ (a : Addr) (us : List V) (kf : V → Str × Int), vs = [.ref a] ∧ SqL K H a us ∧ (∀ u ∈ us, NameAt K H u (kf u)) ∧
  ∀ us' p, us'.Perm us → us'.Pairwise (fun x y => ltN (kf y) (kf x) = false) → H p = none → Q (.ref p) (upd H p (.lst us'))
theorem cr_sortedN : CallR X (.builtin "sorted") (rSortedN X.K) := by
  intro pins s σ H vs ws Q I r h
  obtain ⟨a, us, kf, rfl, hs, hx, q⟩ := h
  obtain ⟨its, rv, hl, hz⟩ := I.list hs
  obtain ⟨u, rfl, ru⟩ := vals1 r
  cases (show u = Value.ref a from ru)
  obtain ⟨e1, e2⟩ := refs_back rv fun x m => (hx x m).imp fun t z => z.1
  have look : ∀ v ∈ its, ∃ t o t1 t2 n, v = .ref t ∧ s.heap.get? t = some o ∧ o.cls = .type "tuple" ∧ o.data = .seq #[.str (kf (backV v)).1 t1, .int (kf (backV v)).2 t2] n := by
    intro v hv
    obtain ⟨t, rfl⟩ := e2 v hv
    obtain ⟨b, eb, hb⟩ := hx (.ref t) (by rw [e1]; exact List.mem_map.mpr ⟨_, hv, rfl⟩)
    cases eb
    obtain ⟨its2, r2, ⟨o, ho, hc, n, hd⟩, _⟩ := I.tuple hb
    obtain ⟨u1, u2, rfl, ⟨t1, rfl⟩, ⟨t2, rfl⟩⟩ := vals2 r2
    exact ⟨t, o, t1, t2, n, rfl, ho, hc, hd⟩
  let shape : Nat → Bool := fun i => decide (i = 0)
  obtain ⟨fs, ht⟩ : ∃ fs, TupsOf s.heap shape its fs := tups_of fun v hv => by
    obtain ⟨t, o, t1, t2, n, rfl, ho, hc, hd⟩ := look v hv
    exact ⟨_, t, o, _, n, rfl, ho, hc, hd, rfl, fun z => (by cases z), fun _ => ⟨_, _, rfl⟩⟩
  have key : ∀ v ∈ its, G.tupKeyC s.heap shape v = some (rawKey (kf (backV v))) := fun v hv => by
    obtain ⟨t, o, t1, t2, n, rfl, ho, hc, hd⟩ := look v hv
    unfold G.tupKeyC
    have it : G.isTupObj s.heap (.ref t) = true := by
      unfold G.isTupObj
      simp [ho, hc]
    rw [if_pos it]
    unfold tupKey
    simp only [ho, hd]
    rfl
  refine G.sorted_tups hl.isList ht (fun v hv => ⟨_, key v hv⟩) (by rw [← rv.length]; exact hz) fun st' hp hso _ => ?_
  have zz : (pairsOf its).toList = its.zip its := pairsOf_toList its
  have hpl : (arrOf st').toList.Perm (its.zip its) := by rw [← zz]; exact hp.toList
  have own : ∀ p ∈ (arrOf st').toList, p.1 = p.2 ∧ p.1 ∈ its := fun p hm => mem_zip_self (hpl.mem_iff.mp hm)
  have sz : (arrOf st').size = its.length := by
    have := hpl.length_eq
    rw [Array.length_toList, List.length_zip] at this
    omega
  have outp : ((arrOf st').toList.map (·.2)).Perm its := by
    have z := hpl.map (·.2)
    rw [List.map_snd_zip (Nat.le_refl _)] at z
    exact z
  have oute : ((arrOf st').map (·.2)).toList = (arrOf st').toList.map (·.2) := Array.toList_map
  have h3 : ∀ u ∈ (arrOf st').toList.map (·.2), ∃ a, u = Value.ref a := fun u hu => e2 u (outp.mem_iff.mp hu)
  obtain ⟨e, hn⟩ := sortedAll_at s.heap its ((arrOf st').map (·.2))
  have fresh : s.heap.objs.size ≤ s.heap.objs.size + 1 := Nat.le_succ _
  have lenO : ((arrOf st').toList.map (·.2)).length = us.length := by rw [outp.length_eq, ← rv.length]
  refine ⟨.ref (s.heap.objs.size + 1), upd H (s.heap.objs.size + 1) (.lst (((arrOf st').toList.map (·.2)).map backV)), I.laid (t' := s.toks) (fun b o z => sortedAll_old z) fresh ⟨?_, (arrOf st').toList.map (·.2), e, vals_back h3, ?_⟩, rfl, q _ _ ?_ ?_ (I.hok.fresh fresh)⟩
  · rw [List.length_map, lenO]
    exact hz
  · rw [hn, ← oute, Array.toArray_toList]
  · rw [e1]
    exact outp.map backV
  · rw [List.pairwise_iff_getElem]
    intro i j hi hj hij
    have hi' : i < (arrOf st').size := by
      rw [List.length_map, List.length_map, Array.length_toList] at hi
      exact hi
    have hj' : j < (arrOf st').size := by
      rw [List.length_map, List.length_map, Array.length_toList] at hj
      exact hj
    have kk : ∀ n (hn : n < (arrOf st').size), KK (G.tupKindC s.heap shape) (arrOf st') n = rawKey (kf (backV ((arrOf st')[n]).2)) := fun n hn => by
      have m : (arrOf st')[n] ∈ (arrOf st').toList := by
        rw [← Array.getElem_toList]
        exact List.getElem_mem _
      obtain ⟨o1, o2⟩ := own _ m
      unfold KK
      rw [Array.getElem?_eq_getElem hn]
      show (G.tupKeyC s.heap shape ((arrOf st')[n]).1).getD [] = _
      rw [key _ o2, ← o1]
      rfl
    have z := hso i j (Nat.le_of_lt hij) (by
      have : (pairsOf its).size = its.length := by rw [← Array.length_toList, zz, List.length_zip]; omega
      omega)
    rw [kk i hi', kk j hj'] at z
    have z' : (listOrd itemOrd).blt (rawKey (kf (backV ((arrOf st')[j]).2))) (rawKey (kf (backV ((arrOf st')[i]).2))) = false := z
    rw [raw_lt] at z'
    simp only [List.getElem_map, Array.getElem_toList]
    exact z'
theorem tups_ofA {P : Heap → Prop} {shape : Nat → Bool} : ∀ {vs : List Value}, (∀ v ∈ vs, ∃ f, ∀ h, P h → TupOf h shape v f) → ∃ fs, ∀ h, P h → TupsOf h shape vs fs
  | [], _ => ⟨[], fun _ _ => .nil⟩
  | v :: vs, k => by
    obtain ⟨f, hf⟩ := k v List.mem_cons_self
    obtain ⟨fs, hfs⟩ := tups_ofA fun u hu => k u (List.mem_cons_of_mem _ hu)
    exact ⟨f :: fs, fun h p => .cons (hf h p) (hfs h p)⟩
def rSortedTN (K : PySem.W.Frag) : List V → Hp → VK → Prop := fun vs H Q => ∃ (a : Addr) (us : List V) (kf : V → Str × Int), vs = [.ref a] ∧ SqT K H a us ∧ (∀ u ∈ us, NameAt K H u (kf u)) ∧
  ∀ us' p, us'.Perm us → us'.Pairwise (fun x y => ltN (kf y) (kf x) = false) → H p = none → Q (.ref p) (upd H p (.lst us'))
theorem cr_sortedTN : CallR X (.builtin "sorted") (rSortedTN X.K) := by
  intro pins s σ H vs ws Q I r h
  obtain ⟨a, us, kf, rfl, hs, hx, q⟩ := h
  obtain ⟨its, rv, ⟨o0, ho0, hc0, n0, hd0⟩, hz⟩ := I.tuple hs
  obtain ⟨u, rfl, ru⟩ := vals1 r
  cases (show u = Value.ref a from ru)
  obtain ⟨e1, e2⟩ := refs_back rv fun x m => (hx x m).imp fun t z => z.1
  have look : ∀ v ∈ its, ∃ t o t1 t2 n, v = .ref t ∧ s.heap.get? t = some o ∧ o.cls = .type "tuple" ∧ o.data = .seq #[.str (kf (backV v)).1 t1, .int (kf (backV v)).2 t2] n := by
    intro v hv
    obtain ⟨t, rfl⟩ := e2 v hv
    obtain ⟨b, eb, hb⟩ := hx (.ref t) (by rw [e1]; exact List.mem_map.mpr ⟨_, hv, rfl⟩)
    cases eb
    obtain ⟨its2, r2, ⟨o, ho, hc, n, hd⟩, _⟩ := I.tuple hb
    obtain ⟨u1, u2, rfl, ⟨t1, rfl⟩, ⟨t2, rfl⟩⟩ := vals2 r2
    exact ⟨t, o, t1, t2, n, rfl, ho, hc, hd⟩
  let shape : Nat → Bool := fun i => decide (i = 0)
  have look2 : ∀ h2 : Heap, (∀ b o, s.heap.get? b = some o → h2.get? b = some o) → ∀ v ∈ its, ∃ t o t1 t2 n, v = .ref t ∧ h2.get? t = some o ∧ o.cls = .type "tuple" ∧ o.data = .seq #[.str (kf (backV v)).1 t1, .int (kf (backV v)).2 t2] n := fun h2 k v hv => by
    obtain ⟨t, o, t1, t2, n, e, ho, hc, hd⟩ := look v hv
    exact ⟨t, o, t1, t2, n, e, k _ _ ho, hc, hd⟩
  have form : ∃ fs, ∀ h2 : Heap, (∀ b o, s.heap.get? b = some o → h2.get? b = some o) → TupsOf h2 shape its fs := by
    have one : ∀ v ∈ its, ∃ f, ∀ h2 : Heap, (∀ b o, s.heap.get? b = some o → h2.get? b = some o) → TupOf h2 shape v f := fun v hv => by
      obtain ⟨t, o, t1, t2, n, rfl, ho, hc, hd⟩ := look v hv
      exact ⟨_, fun h2 k => ⟨t, o, _, n, rfl, k _ _ ho, hc, hd, rfl, fun z => (by cases z), fun _ => ⟨_, _, rfl⟩⟩⟩
    exact tups_ofA one
  obtain ⟨fs, ht⟩ := form
  have key : ∀ h2 : Heap, (∀ b o, s.heap.get? b = some o → h2.get? b = some o) → ∀ v ∈ its, G.tupKeyC h2 shape v = some (rawKey (kf (backV v))) := fun h2 k v hv => by
    obtain ⟨t, o, t1, t2, n, rfl, ho, hc, hd⟩ := look2 h2 k v hv
    unfold G.tupKeyC
    have it : G.isTupObj h2 (.ref t) = true := by
      unfold G.isTupObj
      simp [ho, hc]
    rw [if_pos it]
    unfold tupKey
    simp only [ho, hd]
    rfl
  refine sorted_tupsT ho0 hc0 hd0 ht (fun h2 k v hv => ⟨_, key h2 k v hv⟩) (by rw [← rv.length]; exact hz) fun h1 st' k1 z1 l1 hp hso => ?_
  have zz : (pairsOf its).toList = its.zip its := pairsOf_toList its
  have hpl : (arrOf st').toList.Perm (its.zip its) := by rw [← zz]; exact hp.toList
  have own : ∀ p ∈ (arrOf st').toList, p.1 = p.2 ∧ p.1 ∈ its := fun p hm => mem_zip_self (hpl.mem_iff.mp hm)
  have sz : (arrOf st').size = its.length := by
    have := hpl.length_eq
    rw [Array.length_toList, List.length_zip] at this
    omega
  have outp : ((arrOf st').toList.map (·.2)).Perm its := by
    have z := hpl.map (·.2)
    rw [List.map_snd_zip (Nat.le_refl _)] at z
    exact z
  have oute : ((arrOf st').map (·.2)).toList = (arrOf st').toList.map (·.2) := Array.toList_map
  have h3 : ∀ u ∈ (arrOf st').toList.map (·.2), ∃ a, u = Value.ref a := fun u hu => e2 u (outp.mem_iff.mp hu)
  obtain ⟨e, hn⟩ := sortedHeap_at (vs := its) (out := (arrOf st').map (·.2)) l1
  have fresh : s.heap.objs.size ≤ s.heap.objs.size + 1 := Nat.le_succ _
  have lenO : ((arrOf st').toList.map (·.2)).length = us.length := by rw [outp.length_eq, ← rv.length]
  refine ⟨.ref (s.heap.objs.size + 1), upd H (s.heap.objs.size + 1) (.lst (((arrOf st').toList.map (·.2)).map backV)), I.laid (t' := s.toks) (fun b o z => (sortedHeap_old (Nat.ne_of_lt (Nat.lt_succ_of_lt (Heap.lt_size z))) (Heap.lt_size (k1 _ _ z))).trans (k1 _ _ z)) fresh ⟨?_, (arrOf st').toList.map (·.2), e, vals_back h3, ?_⟩, rfl, q _ _ ?_ ?_ (I.hok.fresh fresh)⟩
  · rw [List.length_map, lenO]
    exact hz
  · rw [hn, ← oute, Array.toArray_toList]
  · rw [e1]
    exact outp.map backV
  · rw [List.pairwise_iff_getElem]
    intro i j hi hj hij
    have hi' : i < (arrOf st').size := by
      rw [List.length_map, List.length_map, Array.length_toList] at hi
      exact hi
    have hj' : j < (arrOf st').size := by
      rw [List.length_map, List.length_map, Array.length_toList] at hj
      exact hj
    have kk : ∀ n (hn : n < (arrOf st').size), KK (G.tupKindC h1 shape) (arrOf st') n = rawKey (kf (backV ((arrOf st')[n]).2)) := fun n hn => by
      have m : (arrOf st')[n] ∈ (arrOf st').toList := by
        rw [← Array.getElem_toList]
        exact List.getElem_mem _
      obtain ⟨o1, o2⟩ := own _ m
      unfold KK
      rw [Array.getElem?_eq_getElem hn]
      show (G.tupKeyC h1 shape ((arrOf st')[n]).1).getD [] = _
      rw [key h1 k1 _ o2, ← o1]
      rfl
    have z := hso i j (Nat.le_of_lt hij) (by
      have : (pairsOf its).size = its.length := by rw [← Array.length_toList, zz, List.length_zip]; omega
      omega)
    rw [kk i hi', kk j hj'] at z
    have z' : (listOrd itemOrd).blt (rawKey (kf (backV ((arrOf st')[j]).2))) (rawKey (kf (backV ((arrOf st')[i]).2))) = false := z
    rw [raw_lt] at z'
    simp only [List.getElem_map, Array.getElem_toList]
    exact z'
/-- the same, by pairs -/
def rSortedTP (K : PySem.W.Frag) : List V → Hp → VK → Prop := fun vs H Q => ∃ (a : Addr) (us : List V) (ns : List (Str × Int)), vs = [.ref a] ∧ SqT K H a us ∧ Paired (NameAt K H) us ns ∧
  ∀ us' ns' p, Paired (NameAt K H) us' ns' → ns'.Perm ns → ns'.Pairwise (fun x y => ltN y x = false) → H p = none → Q (.ref p) (upd H p (.lst us'))
open Classical in
noncomputable def nameOf (K : PySem.W.Frag) (H : Hp) (v : V) : Str × Int := if h : ∃ n, NameAt K H v n then choose h else ("", 0)
theorem nameOf_at {K : PySem.W.Frag} {H : Hp} {v : V} {n : Str × Int} (h : NameAt K H v n) : NameAt K H v (nameOf K H v) := by
  unfold nameOf
  rw [dif_pos ⟨n, h⟩]
  exact Classical.choose_spec (⟨n, h⟩ : ∃ n, NameAt K H v n)
theorem cr_sortedTP : CallR X (.builtin "sorted") (rSortedTP X.K) := by
  intro pins s σ H vs ws Q I r h
  obtain ⟨a, us, ns, rfl, hs, hP, q⟩ := h
  have one : ∀ {v : V} {n : Str × Int}, NameAt X.K H v n → nameOf X.K H v = n := fun {v n} h => by
    obtain ⟨b, rfl, h1⟩ := h
    obtain ⟨b', e, h2⟩ := nameOf_at (⟨b, rfl, h1⟩ : NameAt X.K H (.ref b) n)
    cases e
    have z := I.tuple_inj h2 h1
    generalize nameOf X.K H (.ref b) = m at z
    obtain ⟨m1, m2⟩ := m
    obtain ⟨n1, n2⟩ := n
    have z' : [V.str m1, V.int m2] = [V.str n1, V.int n2] := z
    simp only [List.cons.injEq, V.str.injEq, V.int.injEq, and_true] at z'
    rw [z'.1, z'.2]
  have mp : ∀ {us : List V} {ns : List (Str × Int)}, Paired (NameAt X.K H) us ns → us.map (nameOf X.K H) = ns := by
    intro us ns h
    induction h with
    | nil => rfl
    | cons a _ ih => rw [List.map_cons, one a, ih]
  have back : ∀ {us : List V}, (∀ u ∈ us, NameAt X.K H u (nameOf X.K H u)) → Paired (NameAt X.K H) us (us.map (nameOf X.K H)) := by
    intro us
    induction us with
    | nil => exact fun _ => .nil
    | cons u us ih => exact fun h => .cons (h u List.mem_cons_self) (ih fun x hx => h x (List.mem_cons_of_mem _ hx))
  have all : ∀ {us : List V} {ns : List (Str × Int)}, Paired (NameAt X.K H) us ns → ∀ u ∈ us, NameAt X.K H u (nameOf X.K H u) := by
    intro us ns h
    induction h with
    | nil => exact fun _ z => nomatch z
    | cons a _ ih =>
      intro u hu
      rcases List.mem_cons.mp hu with rfl | hu
      · exact nameOf_at a
      · exact ih u hu
  refine cr_sortedTN pins s σ H [.ref a] ws Q I r ⟨a, us, nameOf X.K H, rfl, hs, all hP, fun us' p hp ho np => ?_⟩
  refine q us' (us'.map (nameOf X.K H)) p (back fun u hu => all hP u (hp.mem_iff.mp hu)) ?_ (List.pairwise_map.mpr ho) np
  rw [← mp hP]
  exact hp.map _
end
end Br

set_option Elab.async false
set_option linter.all false
set_option maxRecDepth 100000
set_option maxHeartbeats 4000000
/-! The data layer: defs over plain data. A state of a def is a list of cells (by slot): unset, data that is never changed
any more (fro), or a list or dict of its own that it may change (own). G is the part of the heap that no one changes. -/
namespace Dl
open PySem PySem.Spec PyProof.Rows L2
/-- a tuple: made and a key, perhaps, of a dict; of the module, or any; made and known as it lies (what dict() asks) -/
inductive Tk where
  | mad | wri | frz
  deriving DecidableEq
inductive D where
  | none
  | bool (b : Bool)
  | int (i : Int)
  | str (s : Str)
  | list (xs : List D)
  | tuple (c : Tk) (xs : List D)
  | dict (kvs : List (D × D))
  /-- the script -/
  | scr (ns : List Int)
mutual
def toPy : D → PyData
  | .none => .none
  | .bool b => .bool b
  | .int i => .int i
  | .str s => .str s
  | .list xs => .list (toPys xs)
  | .tuple _ xs => .tuple (toPys xs)
  | .dict kvs => .dict (toPyKs kvs)
  | .scr _ => .dict []
def toPys : List D → List PyData
  | [] => []
  | d :: ds => toPy d :: toPys ds
def toPyKs : List (D × D) → List (PyData × PyData)
  | [] => []
  | (a, b) :: r => (toPy a, toPy b) :: toPyKs r
end
def keyD : Key → D
  | .inl i => .int i
  | .inr x => .str x
mutual
inductive Rp (K : PySem.W.Frag) (G : Hp) : V → D → Prop
  | non : Rp K G .non .none
  | bl (b : Bool) : Rp K G (.bl b) (.bool b)
  | int (i : Int) : Rp K G (.int i) (.int i)
  | str (x : Str) : Rp K G (.str x) (.str x)
  | lst {a : Addr} {xs : List V} {ds : List D} : Rd G a (.lst xs) → RpAll K G xs ds → Rp K G (.ref a) (.list ds)
  | tup {a : Addr} {xs : List V} {ds : List D} : G a = some (.tup xs) → RpAll K G xs ds → Rp K G (.ref a) (.tuple .mad ds)
  | tupC {a : Addr} {xs : List V} {ds : List D} : SqT K G a xs → RpAll K G xs ds → Rp K G (.ref a) (.tuple .wri ds)
  | tupZ {a : Addr} {o : Obj} {xs : List V} {ds : List D} : G a = some (.frz o (.tup xs)) → o.dict = none → RpAll K G xs ds → Rp K G (.ref a) (.tuple .frz ds)
  | scr {a : Addr} {ns : List Int} : SqL K G a (ns.map V.int) → Rp K G (.ref a) (.scr ns)
  | dK {a : Addr} {ks : List Key} {xs : List V} {ds : List D} : Rd G a (.dK (ks.zip xs)) → ks.length = xs.length → RpAll K G xs ds → Rp K G (.ref a) (.dict ((ks.map keyD).zip ds))
  | dT {a : Addr} {ks : List (List Key)} {xs : List V} {ds : List D} : Rd G a (.dT (ks.zip xs)) → ks.length = xs.length → RpAll K G xs ds → Rp K G (.ref a) (.dict ((ks.map fun k => .tuple .mad (k.map keyD)).zip ds))
inductive RpAll (K : PySem.W.Frag) (G : Hp) : List V → List D → Prop
  | nil : RpAll K G [] []
  | cons {v : V} {vs : List V} {d : D} {ds : List D} : Rp K G v d → RpAll K G vs ds → RpAll K G (v :: vs) (d :: ds)
end
theorem rd_same {G G' : Hp} {a : Addr} {u : HO} (e : Same G G') (h : Rd G a u) : Rd G' a u := h.imp (e _ _) fun ⟨o, q⟩ => ⟨o, e _ _ q⟩
theorem sqT_same {K : PySem.W.Frag} {H H' : Hp} {a : Addr} {xs : List V} (e : Same H H') (h : SqT K H a xs) : SqT K H' a xs := h.imp (rd_same e) id
mutual
theorem rp_same {K : PySem.W.Frag} {G G' : Hp} (e : Same G G') : ∀ {v : V} {d : D}, Rp K G v d → Rp K G' v d
  | _, _, .non => .non
  | _, _, .bl b => .bl b
  | _, _, .int i => .int i
  | _, _, .str x => .str x
  | _, _, .lst s a => .lst (rd_same e s) (rps_same e a)
  | _, _, .tup s a => .tup (e _ _ s) (rps_same e a)
  | _, _, .tupC s a => .tupC (sqT_same e s) (rps_same e a)
  | _, _, .tupZ s n a => .tupZ (e _ _ s) n (rps_same e a)
  | _, _, .scr s => .scr (e.seq s)
  | _, _, .dK s l a => .dK (rd_same e s) l (rps_same e a)
  | _, _, .dT s l a => .dT (rd_same e s) l (rps_same e a)
theorem rps_same {K : PySem.W.Frag} {G G' : Hp} (e : Same G G') : ∀ {vs : List V} {ds : List D}, RpAll K G vs ds → RpAll K G' vs ds
  | _, _, .nil => .nil
  | _, _, .cons x r => .cons (rp_same e x) (rps_same e r)
end
theorem rp_tup {K : PySem.W.Frag} {G : Hp} {v : V} {c : Tk} {ds : List D} (h : Rp K G v (.tuple c ds)) : ∃ a xs, v = .ref a ∧ SqT K G a xs ∧ RpAll K G xs ds ∧ (c = .mad → G a = some (.tup xs)) := by
  cases h with
  | tup s a => exact ⟨_, _, rfl, SqT.of s, a, fun _ => s⟩
  | tupC s a => exact ⟨_, _, rfl, s, a, fun z => nomatch z⟩
  | tupZ s n a => exact ⟨_, _, rfl, .inl (.inr ⟨_, s⟩), a, fun z => nomatch z⟩
theorem rp_weak {K : PySem.W.Frag} {G : Hp} {v : V} {c : Tk} {ds : List D} (h : Rp K G v (.tuple c ds)) : Rp K G v (.tuple .wri ds) := by
  obtain ⟨a, xs, rfl, s, r, _⟩ := rp_tup h
  exact .tupC s r
theorem rps_len {K : PySem.W.Frag} {G : Hp} : ∀ {xs : List V} {ds : List D}, RpAll K G xs ds → xs.length = ds.length
  | _, _, .nil => rfl
  | _, _, .cons _ r => congrArg (· + 1) (rps_len r)
/-- what an object holds, its parts in G -/
inductive ObR (K : PySem.W.Frag) (G : Hp) : HO → D → Prop
  | lst {xs : List V} {ds : List D} : RpAll K G xs ds → ObR K G (.lst xs) (.list ds)
  | dK {ks : List Key} {xs : List V} {ds : List D} : ks.length = xs.length → RpAll K G xs ds → ObR K G (.dK (ks.zip xs)) (.dict ((ks.map keyD).zip ds))
  | dT {ks : List (List Key)} {xs : List V} {ds : List D} : ks.length = xs.length → RpAll K G xs ds → ObR K G (.dT (ks.zip xs)) (.dict ((ks.map fun k => .tuple .mad (k.map keyD)).zip ds))
theorem ob_same {K : PySem.W.Frag} {G G' : Hp} (e : Same G G') {o : HO} {d : D} (h : ObR K G o d) : ObR K G' o d := by
  cases h with
  | lst a => exact .lst (rps_same e a)
  | dK l a => exact .dK l (rps_same e a)
  | dT l a => exact .dT l (rps_same e a)
theorem ob_rp {K : PySem.W.Frag} {G : Hp} {a : Addr} {o : HO} {d : D} (h : ObR K G o d) (e : G a = some o) : Rp K G (.ref a) d := by
  cases h with
  | lst r => exact .lst (.inl e) r
  | dK l r => exact .dK (.inl e) l r
  | dT l r => exact .dT (.inl e) l r
def isTup : HO → Bool
  | .tup _ => true
  | _ => false
theorem ob_tup {K : PySem.W.Frag} {G : Hp} {o : HO} {d : D} (h : ObR K G o d) : isTup o = false := by cases h <;> rfl
/-- a value that is read: data, or an object that somebody owns -/
inductive Vw (K : PySem.W.Frag) (G H : Hp) : V → D → Prop
  | fro {v : V} {d : D} : Rp K G v d → Vw K G H v d
  | own {a : Addr} {o : HO} {d : D} : H a = some o → ObR K G o d → Vw K G H (.ref a) d
/-! ### states -/
inductive Cell where
  | un
  | fro (d : D)
  | own (d : D)
abbrev Cs := List Cell
/-- the addresses that are owned -/
def Ow (σ : L2.St) (ρ : Cs) (p : Addr) : Prop := ∃ (i : Nat) (d : D), ρ[i]? = some (Cell.own d) ∧ σ[i]? = some (some (V.ref p))
structure Rel (K : PySem.W.Frag) (σ : L2.St) (G H : Hp) (ρ : Cs) : Prop where
  gh : Same G H
  len : σ.length = ρ.length
  fro : ∀ (i : Nat) (d : D), ρ[i]? = some (Cell.fro d) → ∃ v, σ[i]? = some (some v) ∧ Rp K G v d
  own : ∀ (i : Nat) (d : D), ρ[i]? = some (Cell.own d) → ∃ p o, σ[i]? = some (some (V.ref p)) ∧ H p = some o ∧ G p = none ∧ ObR K G o d
  apart : ∀ (i j : Nat) (p : Addr) (d e : D), ρ[i]? = some (Cell.own d) → ρ[j]? = some (Cell.own e) → σ[i]? = some (some (V.ref p)) → σ[j]? = some (some (V.ref p)) → i = j
/-- a step of the heap: G grows, what is not owned stays -/
structure Stp (M : Addr → Prop) (G H G' H' : Hp) : Prop where
  gg : Same G G'
  hh : ∀ a o, ¬ M a → H a = some o → H' a = some o
  fr : ∀ a o, ¬ M a → H a = some o → G a = none → isTup o = false → G' a = none
  dom : ∀ a, H' a = none → H a = none
theorem Stp.refl {M : Addr → Prop} {G H : Hp} : Stp M G H G H := ⟨Same.refl G, fun _ _ _ h => h, fun _ _ _ _ h _ => h, fun _ h => h⟩
theorem Stp.weak {M N : Addr → Prop} {G H G' H' : Hp} (s : Stp M G H G' H') (h : ∀ a, M a → N a) : Stp N G H G' H' := ⟨s.gg, fun a o n e => s.hh a o (fun m => n (h a m)) e, fun a o n => s.fr a o fun m => n (h a m), s.dom⟩
theorem Stp.trans {M : Addr → Prop} {G H G1 H1 G2 H2 : Hp} (s : Stp M G H G1 H1) (t : Stp M G1 H1 G2 H2) : Stp M G H G2 H2 :=
  ⟨s.gg.trans t.gg, fun a o n e => t.hh a o n (s.hh a o n e), fun a o n e g i => t.fr a o n (s.hh a o n e) (s.fr a o n e g i) i, fun a e => s.dom a (t.dom a e)⟩
/-- what a step of a def keeps: slots below n, the heap but for what it owns -/
structure Lk (n : Nat) (σ : L2.St) (G H : Hp) (ρ : Cs) (σ' : L2.St) (G' H' : Hp) (ρ' : Cs) : Prop where
  st : Stp (Ow σ ρ) G H G' H'
  sb : ∀ p, Ow σ' ρ' p → Ow σ ρ p ∨ H p = none
  pn : ∀ i, i < n → σ'[i]? = σ[i]?
theorem Lk.refl {n : Nat} {σ : L2.St} {G H : Hp} {ρ : Cs} : Lk n σ G H ρ σ G H ρ := ⟨.refl, fun _ h => .inl h, fun _ _ => rfl⟩
theorem Lk.trans {n : Nat} {σ σ1 σ2 : L2.St} {G H G1 H1 G2 H2 : Hp} {ρ ρ1 ρ2 : Cs} (a : Lk n σ G H ρ σ1 G1 H1 ρ1) (b : Lk n σ1 G1 H1 ρ1 σ2 G2 H2 ρ2) : Lk n σ G H ρ σ2 G2 H2 ρ2 := by
  have nm : ∀ p o, ¬ Ow σ ρ p → H p = some o → ¬ Ow σ1 ρ1 p := fun p o n e w => by
    rcases a.sb p w with z | z
    · exact n z
    · rw [e] at z; cases z
  refine ⟨⟨a.st.gg.trans b.st.gg, fun p o n e => b.st.hh p o (nm p o n e) (a.st.hh p o n e), fun p o n e g t => b.st.fr p o (nm p o n e) (a.st.hh p o n e) (a.st.fr p o n e g t) t, fun p e => a.st.dom p (b.st.dom p e)⟩, fun p w => ?_, fun i h => (b.pn i h).trans (a.pn i h)⟩
  rcases b.sb p w with z | z
  · exact a.sb p z
  · exact .inr (a.st.dom p z)
/-- nothing of the def's own is touched -/
def Pure : Addr → Prop := fun _ => False
/-- a step that touches nothing keeps the state -/
theorem Rel.pure {K : PySem.W.Frag} {σ : L2.St} {G H G' H' : Hp} {ρ : Cs} (R : Rel K σ G H ρ) (s : Stp Pure G H G' H') (gh : Same G' H') : Rel K σ G' H' ρ := by
  refine ⟨gh, R.len, fun i d e => ?_, fun i d e => ?_, R.apart⟩
  · obtain ⟨v, h, r⟩ := R.fro i d e
    exact ⟨v, h, rp_same s.gg r⟩
  · obtain ⟨p, o, h, hp, gp, r⟩ := R.own i d e
    exact ⟨p, o, h, s.hh p o (fun z => z) hp, s.fr p o (fun z => z) hp gp (ob_tup r), ob_same s.gg r⟩
theorem Lk.pure {n : Nat} {σ : L2.St} {G H G' H' : Hp} {ρ : Cs} (s : Stp Pure G H G' H') : Lk n σ G H ρ σ G' H' ρ := ⟨s.weak fun _ => False.elim, fun _ h => .inl h, fun _ _ => rfl⟩
/-- owned: not new -/
theorem Rel.old {K : PySem.W.Frag} {σ : L2.St} {G H : Hp} {ρ : Cs} (R : Rel K σ G H ρ) {p : Addr} (w : Ow σ ρ p) : H p ≠ none := fun z => by
  obtain ⟨i, d, h1, h2⟩ := w
  obtain ⟨p', o, h3, h4, _⟩ := R.own i d h1
  rw [h2] at h3
  cases h3
  rw [z] at h4
  cases h4
/-! ### what is told of data -/
abbrev ME := Cs → (D → Cs → Prop) → Prop
abbrev MT := Cs → (Bool → Cs → Prop) → Prop
abbrev MA := Cs → (List D → Cs → Prop) → Prop
/-- what is wanted behind a statement -/
structure Dn where
  nx : Cs → Prop
  rt : D → Cs → Prop
  bk : Cs → Prop := fun _ => False
  ct : Cs → Prop := fun _ => False
abbrev MS := Dn → Cs → Prop
/-- a flavour: of the heap ahead, the slots, the cells, G and H behind, the value, its data -/
abbrev Fl := Hp → L2.St → Cs → Hp → Hp → V → D → Prop
def fE (K : PySem.W.Frag) : Fl := fun _ _ _ G _ v d => Rp K G v d
def fV (K : PySem.W.Frag) : Fl := fun _ _ _ G H v d => Vw K G H v d
def fF (K : PySem.W.Frag) : Fl := fun H0 σ ρ G H v d => ∃ p o, v = .ref p ∧ H0 p = none ∧ ¬ Ow σ ρ p ∧ H p = some o ∧ G p = none ∧ ObR K G o d
/-- the readings by data -/
def tE (K : PySem.W.Frag) (φ : Fl) (m : ME) : TE := fun σ H Q => ∃ G ρ, Rel K σ G H ρ ∧ m ρ fun d ρ' => ∀ v G' H', Rel K σ G' H' ρ' → Lk 0 σ G H ρ σ G' H' ρ' → φ H σ ρ' G' H' v d → Q v H'
def tT (K : PySem.W.Frag) (m : MT) : TT := fun σ H Q => ∃ G ρ, Rel K σ G H ρ ∧ m ρ fun b ρ' => ∀ G' H', Rel K σ G' H' ρ' → Lk 0 σ G H ρ σ G' H' ρ' → Q b H'
def tA (K : PySem.W.Frag) (m : MA) : TA := fun σ H Q => ∃ G ρ, Rel K σ G H ρ ∧ m ρ fun ds ρ' => ∀ vs G' H', Rel K σ G' H' ρ' → Lk 0 σ G H ρ σ G' H' ρ' → RpAll K G' vs ds → Q vs H'
def tS (K : PySem.W.Frag) (n : Nat) (m : MS) : TS := fun T σ H => ∃ G ρ E, Rel K σ G H ρ ∧ m E ρ ∧
  (∀ σ' G' H' ρ', Rel K σ' G' H' ρ' → Lk n σ G H ρ σ' G' H' ρ' → E.nx ρ' → T.nx σ' H') ∧
  (∀ v d σ' G' H' ρ', Rel K σ' G' H' ρ' → Lk n σ G H ρ σ' G' H' ρ' → Rp K G' v d → E.rt d ρ' → T.rt v H') ∧
  (∀ σ' G' H' ρ', Rel K σ' G' H' ρ' → Lk n σ G H ρ σ' G' H' ρ' → E.bk ρ' → T.bk σ' H') ∧
  (∀ σ' G' H' ρ', Rel K σ' G' H' ρ' → Lk n σ G H ρ σ' G' H' ρ' → E.ct ρ' → T.ct σ' H')
def Mo {α : Type} (m : Cs → (α → Cs → Prop) → Prop) : Prop := ∀ (ρ : Cs) (k k' : α → Cs → Prop), (∀ d ρ', k d ρ' → k' d ρ') → m ρ k → m ρ k'
def MoS (m : MS) : Prop := ∀ (ρ : Cs) (E E' : Dn), (∀ ρ', E.nx ρ' → E'.nx ρ') → (∀ d ρ', E.rt d ρ' → E'.rt d ρ') → (∀ ρ', E.bk ρ' → E'.bk ρ') → (∀ ρ', E.ct ρ' → E'.ct ρ') → m E ρ → m E' ρ
structure SE (K : PySem.W.Frag) (φ : Fl) (X : Cx) (e : Expr) (m : ME) : Prop where
  mono : Mo m
  pe : PE X e (tE K φ m)
structure ST (K : PySem.W.Frag) (X : Cx) (e : Expr) (m : MT) : Prop where
  mono : Mo m
  pt : PT X e (tT K m)
structure SA (K : PySem.W.Frag) (X : Cx) (es : List Expr) (m : MA) : Prop where
  mono : Mo m
  pa : PA X es (tA K m)
structure SS (K : PySem.W.Frag) (n : Nat) (X : Cx) (st : Stmt) (m : MS) : Prop where
  mono : MoS m
  ps : PS X st (tS K n m)
structure SB (K : PySem.W.Frag) (n : Nat) (X : Cx) (sts : List Stmt) (m : MS) : Prop where
  mono : MoS m
  ps : PSs X sts (tS K n m)
section
variable {X : Cx}
theorem pe_weak {e : Expr} {t t' : TE} (h : PE X e t) (w : ∀ σ H Q, t' σ H Q → t σ H Q) : PE X e t' := ⟨fun pins s σ H Q I q => h.run pins s σ H Q I (w σ H Q q)⟩
theorem pt_weak {e : Expr} {t t' : TT} (h : PT X e t) (w : ∀ σ H Q, t' σ H Q → t σ H Q) : PT X e t' := ⟨fun pins s σ H Q I q => h.run pins s σ H Q I (w σ H Q q)⟩
theorem pa_weak {e : List Expr} {t t' : TA} (h : PA X e t) (w : ∀ σ H Q, t' σ H Q → t σ H Q) : PA X e t' := ⟨fun pos pins s σ H Q I q => h.run pos pins s σ H Q I (w σ H Q q)⟩
theorem ps_weak {e : Stmt} {t t' : TS} (h : PS X e t) (w : ∀ D σ H, t' D σ H → t D σ H) : PS X e t' := ⟨fun pins s σ H D I q => h.run pins s σ H D I (w D σ H q)⟩
theorem pss_weak {e : List Stmt} {t t' : TS} (h : PSs X e t) (w : ∀ D σ H, t' D σ H → t D σ H) : PSs X e t' := ⟨fun pins s σ H D I q => h.run pins s σ H D I (w D σ H q)⟩
end
section
variable {K : PySem.W.Frag} {X : Cx} {e : Expr} {m : ME}
/-- the reading by data, run -/
theorem tE_run {φ : Fl} {σ : L2.St} {G H : Hp} {ρ : Cs} {Q : VK} (R : Rel K σ G H ρ) (h : m ρ fun d ρ' => ∀ v G' H', Rel K σ G' H' ρ' → Lk 0 σ G H ρ σ G' H' ρ' → φ H σ ρ' G' H' v d → Q v H') : tE K φ m σ H Q := ⟨G, ρ, R, h⟩
theorem SE.V (s : SE K (fE K) X e m) : SE K (fV K) X e m := ⟨s.mono, pe_weak s.pe fun σ H Q ⟨G, ρ, R, h⟩ => ⟨G, ρ, R, s.mono ρ _ _ (fun d ρ' q v G' H' R' l r => q v G' H' R' l (.fro r)) h⟩⟩
theorem SE.FV (s : SE K (fF K) X e m) : SE K (fV K) X e m := ⟨s.mono, pe_weak s.pe fun σ H Q ⟨G, ρ, R, h⟩ => ⟨G, ρ, R, s.mono ρ _ _ (fun d ρ' q v G' H' R' l r => by
  obtain ⟨p, o, rfl, _, _, hp, _, ob⟩ := r
  exact q _ G' H' R' l (.own hp ob)) h⟩⟩
/-- G with an object of H -/
theorem same_put {G H : Hp} {p : Addr} {o : HO} (s : Same G H) (h : H p = some o) : Same (upd G p o) H := fun b u e => by
  by_cases q : b = p
  · subst q
    rw [upd_same] at e
    cases e
    exact h
  · rw [upd_ne q] at e
    exact s b u e
theorem same_upd {G : Hp} {p : Addr} {o : HO} (h : G p = none) : Same G (upd G p o) := fun b x e => (upd_ne (ne_of_none e h)).trans e
/-- an unowned one is taken into G -/
theorem Rel.take {σ : L2.St} {G H : Hp} {ρ : Cs} {p : Addr} {o : HO} (R : Rel K σ G H ρ) (hp : H p = some o) (gp : G p = none) (nw : ¬ Ow σ ρ p) : Rel K σ (upd G p o) H ρ := by
  have sg := same_upd (o := o) gp
  refine ⟨same_put R.gh hp, R.len, fun i d e => ?_, fun i d e => ?_, R.apart⟩
  · obtain ⟨v, h, r⟩ := R.fro i d e
    exact ⟨v, h, rp_same sg r⟩
  · obtain ⟨q, o', h, hq, gq, r⟩ := R.own i d e
    exact ⟨q, o', h, hq, by rw [upd_ne (fun z => nw (by subst z; exact ⟨i, d, e, h⟩))]; exact gq, ob_same sg r⟩
theorem SE.F (s : SE K (fF K) X e m) : SE K (fE K) X e m := ⟨s.mono, pe_weak s.pe fun σ H Q ⟨G, ρ, R, h⟩ => ⟨G, ρ, R, s.mono ρ _ _ (fun d ρ' q v G' H' R' l r => by
  obtain ⟨p, o, rfl, h0, nw, hp, gp, ob⟩ := r
  have sg := same_upd (o := o) gp
  refine q _ (upd G' p o) H' (R'.take hp gp nw) ⟨⟨l.st.gg.trans sg, l.st.hh, fun a u n e g t => ?_, l.st.dom⟩, l.sb, l.pn⟩ (ob_rp (ob_same sg ob) upd_same)
  rw [upd_ne (fun z => by subst z; rw [h0] at e; cases e)]
  exact l.st.fr a u n e g t) h⟩⟩
end
/-! ### names, constants -/
section
variable {K : PySem.W.Frag} {X : Cx}
def mVar (i : Nat) : ME := fun ρ k => match ρ[i]? with
  | some (.fro d) => k d ρ
  | _ => False
/-- an owned one, read -/
def mOwn (i : Nat) : ME := fun ρ k => match ρ[i]? with
  | some (.own d) => k d ρ
  | some (.fro d) => k d ρ
  | _ => False
/-- an owned one, given away -/
def mFrz (i : Nat) : ME := fun ρ k => match ρ[i]? with
  | some (.own d) => k d (ρ.set i (.fro d))
  | some (.fro d) => k d ρ
  | _ => False
def mC (d : D) : ME := fun ρ k => k d ρ
theorem se_var {i : Nat} {e : Expr} (h : PE X e (tVar i)) : SE K (fE K) X e (mVar i) := by
  constructor
  · intro ρ k k' h
    unfold mVar
    split
    · exact h _ _
    · exact id
  · refine pe_weak h fun σ H Q ⟨G, ρ, R, h⟩ => ?_
    unfold mVar at h
    split at h
    · rename_i d e
      obtain ⟨v, hv, r⟩ := R.fro i d e
      exact ⟨v, hv, h v G H R .refl r⟩
    · exact h.elim
theorem se_own {i : Nat} {e : Expr} (h : PE X e (tVar i)) : SE K (fV K) X e (mOwn i) := by
  constructor
  · intro ρ k k' h
    unfold mOwn
    split
    · exact h _ _
    · exact h _ _
    · exact id
  · refine pe_weak h fun σ H Q ⟨G, ρ, R, h⟩ => ?_
    unfold mOwn at h
    split at h
    · rename_i d e
      obtain ⟨p, o, hv, hp, gp, r⟩ := R.own i d e
      exact ⟨_, hv, h _ G H R .refl (.own hp r)⟩
    · rename_i d e
      obtain ⟨v, hv, r⟩ := R.fro i d e
      exact ⟨v, hv, h v G H R .refl (.fro r)⟩
    · exact h.elim
theorem set_get {α : Type} {l : List α} {i j : Nat} {x y : α} (h : (l.set i x)[j]? = some y) : (j = i ∧ i < l.length ∧ y = x) ∨ (j ≠ i ∧ l[j]? = some y) := by
  by_cases e : j = i
  · subst e
    rw [List.getElem?_set_self'] at h
    cases q : l[j]? with
    | none => rw [q] at h; cases h
    | some z =>
      rw [q] at h
      exact .inl ⟨rfl, (List.getElem?_eq_some_iff.mp q).1, (Option.some.inj h).symm⟩
  · rw [List.getElem?_set_ne (fun z => e z.symm)] at h
    exact .inr ⟨e, h⟩
theorem se_frz {i : Nat} {e : Expr} (h : PE X e (tVar i)) : SE K (fE K) X e (mFrz i) := by
  constructor
  · intro ρ k k' h
    unfold mFrz
    split
    · exact h _ _
    · exact h _ _
    · exact id
  · refine pe_weak h fun σ H Q ⟨G, ρ, R, h⟩ => ?_
    unfold mFrz at h
    split at h
    · rename_i d e
      obtain ⟨p, o, hv, hp, gp, r⟩ := R.own i d e
      have sg := same_upd (o := o) gp
      refine ⟨_, hv, h _ (upd G p o) H ⟨same_put R.gh hp, by rw [List.length_set]; exact R.len, fun j c q => ?_, fun j c q => ?_, fun j l a c c' q q' => ?_⟩ ⟨⟨sg, fun _ _ _ h => h, fun a u n e1 g t => ?_, fun _ h => h⟩, (fun q w => ?_), fun _ _ => rfl⟩ (ob_rp (ob_same sg r) upd_same)⟩
      · rcases set_get q with ⟨rfl, _, z⟩ | ⟨_, z⟩
        · cases z
          exact ⟨_, hv, ob_rp (ob_same sg r) upd_same⟩
        · obtain ⟨v, h1, h2⟩ := R.fro j c z
          exact ⟨v, h1, rp_same sg h2⟩
      · rcases set_get q with ⟨rfl, _, z⟩ | ⟨ne, z⟩
        · cases z
        · obtain ⟨p', o', h1, h2, h3, h4⟩ := R.own j c z
          refine ⟨p', o', h1, h2, ?_, ob_same sg h4⟩
          rw [upd_ne (fun w => by subst w; exact ne (R.apart j i p' c d z e h1 hv))]
          exact h3
      · rcases set_get q with ⟨_, _, z⟩ | ⟨_, z⟩
        · cases z
        · rcases set_get q' with ⟨_, _, z'⟩ | ⟨_, z'⟩
          · cases z'
          · exact R.apart j l a c c' z z'
      · rw [upd_ne (fun w => by subst w; exact n ⟨i, d, e, hv⟩)]
        exact g
      · obtain ⟨j, c, q1, q2⟩ := w
        rcases set_get q1 with ⟨_, _, z⟩ | ⟨_, z⟩
        · cases z
        · exact .inl ⟨j, c, z, q2⟩
    · rename_i d e
      obtain ⟨v, hv, r⟩ := R.fro i d e
      exact ⟨v, hv, h v G H R .refl r⟩
    · exact h.elim
theorem se_const {v : V} {d : D} {e : Expr} (p : PE X e (tC v)) (h : ∀ G, Rp K G v d) : SE K (fE K) X e (mC d) :=
  ⟨fun _ _ _ h q => h _ _ q, pe_weak p fun σ H Q ⟨G, ρ, R, q⟩ => q v G H R .refl (h G)⟩
theorem se_int {i : Int} {j pos} : SE K (fE K) X (.Constant (.int i) j pos) (mC (.int i)) := se_const pe_int fun _ => .int i
theorem se_str {x : Str} {j pos} : SE K (fE K) X (.Constant (.str x) j pos) (mC (.str x)) := se_const pe_str fun _ => .str x
theorem se_bl {b : Bool} {j pos} : SE K (fE K) X (.Constant (.bool b) j pos) (mC (.bool b)) := se_const pe_bl fun _ => .bl b
theorem se_non {j pos} : SE K (fE K) X (.Constant .none j pos) (mC .none) := se_const pe_non fun _ => .non
end
end Dl

set_option Elab.async false
set_option linter.all false
set_option maxRecDepth 100000
set_option maxHeartbeats 4000000
namespace Dl
open PySem PySem.Spec PyProof.Rows L2
/-! ### operations: what is read gives data, or a new list or dict -/
abbrev PF := Hp → Hp → Hp → V → D → Prop
def pE (K : PySem.W.Frag) : PF := fun _ G _ v d => Rp K G v d
def pF (K : PySem.W.Frag) : PF := fun H0 G H v d => ∃ p o, v = .ref p ∧ H0 p = none ∧ H p = some o ∧ G p = none ∧ ObR K G o d
def Emb (K : PySem.W.Frag) (π : PF) (φ : Fl) : Prop := ∀ (σ : L2.St) (ρ0 ρ : Cs) (G0 H0 G H G' H' : Hp) (v : V) (d : D), Rel K σ G H ρ → Lk 0 σ G0 H0 ρ0 σ G H ρ → π H G' H' v d → φ H0 σ ρ G' H' v d
theorem embE {K : PySem.W.Frag} : Emb K (pE K) (fE K) := fun _ _ _ _ _ _ _ _ _ _ _ _ _ h => h
theorem embF {K : PySem.W.Frag} : Emb K (pF K) (fF K) := fun σ ρ0 ρ G0 H0 G H G' H' v d R l ⟨p, o, e, h0, hp, gp, ob⟩ => ⟨p, o, e, l.st.dom p h0, fun w => R.old w h0, hp, gp, ob⟩
abbrev O1 := D → (D → Prop) → Prop
abbrev O2 := D → D → (D → Prop) → Prop
abbrev On := List D → (D → Prop) → Prop
structure Op2 (K : PySem.W.Frag) (π : PF) (r : R2) (o : O2) : Prop where
  mono : ∀ a b (k k' : D → Prop), (∀ d, k d → k' d) → o a b k → o a b k'
  run : ∀ (G H : Hp) (x y : V) (a b : D) (Q : VK), Same G H → Vw K G H x a → Vw K G H y b → o a b (fun d => ∀ v G' H', Same G' H' → Stp Pure G H G' H' → π H G' H' v d → Q v H') → r x y H Q
structure Op1 (K : PySem.W.Frag) (π : PF) (r : V → Hp → VK → Prop) (o : O1) : Prop where
  mono : ∀ a (k k' : D → Prop), (∀ d, k d → k' d) → o a k → o a k'
  run : ∀ (G H : Hp) (x : V) (a : D) (Q : VK), Same G H → Vw K G H x a → o a (fun d => ∀ v G' H', Same G' H' → Stp Pure G H G' H' → π H G' H' v d → Q v H') → r x H Q
structure Opn (K : PySem.W.Frag) (π : PF) (r : List V → Hp → VK → Prop) (o : On) : Prop where
  mono : ∀ a (k k' : D → Prop), (∀ d, k d → k' d) → o a k → o a k'
  run : ∀ (G H : Hp) (xs : List V) (as : List D) (Q : VK), Same G H → RpAll K G xs as → o as (fun d => ∀ v G' H', Same G' H' → Stp Pure G H G' H' → π H G' H' v d → Q v H') → r xs H Q
theorem stp_refl {G H : Hp} : Stp Pure G H G H := .refl
section
variable {K : PySem.W.Frag} {X : Cx} {a b : Expr} {ma mb : ME} {pos : Pos} {π : PF} {φ : Fl}
def mOp (o : O2) (ma mb : ME) : ME := fun ρ k => ma ρ fun da ρ1 => mb ρ1 fun db ρ2 => o da db fun d => k d ρ2
/-- the left one is owned: it is read when the right one is there -/
def mOpO (o : O2) (i : Nat) (mb : ME) : ME := fun ρ k => mOwn i ρ fun _ _ => mb ρ fun db ρ2 => mOwn i ρ2 fun da _ => o da db fun d => k d ρ2
def mUn (o : O1) (ma : ME) : ME := fun ρ k => ma ρ fun da ρ1 => o da fun d => k d ρ1
def mOn (o : On) (ma : MA) : ME := fun ρ k => ma ρ fun ds ρ1 => o ds fun d => k d ρ1
theorem mo_op {o : O2} (h : ∀ a b (k k' : D → Prop), (∀ d, k d → k' d) → o a b k → o a b k') (ha : Mo ma) (hb : Mo mb) : Mo (mOp o ma mb) := fun ρ k k' w => ha ρ _ _ fun da ρ1 => hb ρ1 _ _ fun db ρ2 => h _ _ _ _ fun d => w d ρ2
theorem mo_own {i : Nat} : Mo (mOwn i) := by
  intro ρ k k' h
  unfold mOwn
  split
  · exact h _ _
  · exact h _ _
  · exact id
theorem mo_opO {o : O2} {i : Nat} (h : ∀ a b (k k' : D → Prop), (∀ d, k d → k' d) → o a b k → o a b k') (hb : Mo mb) : Mo (mOpO o i mb) := fun ρ k k' w => mo_own ρ _ _ fun _ _ => hb ρ _ _ fun db ρ2 => mo_own ρ2 _ _ fun da _ => h _ _ _ _ fun d => w d ρ2
theorem mo_un {o : O1} (h : ∀ a (k k' : D → Prop), (∀ d, k d → k' d) → o a k → o a k') (ha : Mo ma) : Mo (mUn o ma) := fun ρ k k' w => ha ρ _ _ fun da ρ1 => h _ _ _ fun d => w d ρ1
theorem vw_of {G H G' H' : Hp} {σ : L2.St} {ρ : Cs} {v : V} {d : D} (r : Rp K G v d) (l : Lk 0 σ G H ρ σ G' H' ρ') : Vw K G' H' v d := .fro (rp_same l.st.gg r)
/-- the reading of two operands and an operation -/
theorem t_op {r : R2} {o : O2} (ho : Op2 K π r o) (em : Emb K π φ) (ha : SE K (fE K) X a ma) (hb : SE K (fV K) X b mb) (σ : L2.St) (H : Hp) (Q : VK) (h : tE K φ (mOp o ma mb) σ H Q) : tOp r (tE K (fE K) ma) (tE K (fV K) mb) σ H Q := by
  obtain ⟨G, ρ, R, h⟩ := h
  refine ⟨G, ρ, R, ha.mono ρ _ _ (fun da ρ1 q x G1 H1 R1 l1 rx => ⟨G1, ρ1, R1, hb.mono ρ1 _ _ (fun db ρ2 q2 y G2 H2 R2 l2 ry => ?_) q⟩) h⟩
  refine ho.run G2 H2 x y da db Q R2.gh (vw_of rx l2) ry (ho.mono _ _ _ _ (fun d q3 v G3 H3 gh st pv => ?_) q2)
  exact q3 v G3 H3 (R2.pure st gh) ((l1.trans l2).trans (.pure st)) (em σ ρ ρ2 G H G2 H2 G3 H3 v d R2 (l1.trans l2) pv)
/-- what is read of a slot: its value is there -/
theorem own_there {σ : L2.St} {G H : Hp} {ρ : Cs} {i : Nat} {k : D → Cs → Prop} (R : Rel K σ G H ρ) (h : mOwn i ρ k) : ∃ x d, σ[i]? = some (some x) ∧ Vw K G H x d ∧ k d ρ := by
  unfold mOwn at h
  split at h
  · rename_i da e
    obtain ⟨p, ob, hv, hp, gp, rr⟩ := R.own i da e
    exact ⟨_, da, hv, .own hp rr, h⟩
  · rename_i da e
    obtain ⟨v, hv, rr⟩ := R.fro i da e
    exact ⟨v, da, hv, .fro rr, h⟩
  · exact h.elim
theorem t_opO {r : R2} {o : O2} {i : Nat} (ho : Op2 K π r o) (em : Emb K π φ) (hb : SE K (fV K) X b mb) (σ : L2.St) (H : Hp) (Q : VK) (h : tE K φ (mOpO o i mb) σ H Q) : tOp r (tVar i) (tE K (fV K) mb) σ H Q := by
  obtain ⟨G, ρ, R, h⟩ := h
  obtain ⟨x, _, hx, _, h⟩ := own_there R h
  refine ⟨x, hx, G, ρ, R, hb.mono ρ _ _ (fun db ρ2 q2 y G2 H2 R2 l2 ry => ?_) h⟩
  obtain ⟨x', da, hx', vx, q2⟩ := own_there R2 q2
  rw [hx] at hx'
  cases hx'
  exact ho.run G2 H2 x y da db Q R2.gh vx ry (ho.mono _ _ _ _ (fun d q3 v G3 H3 gh st pv => q3 v G3 H3 (R2.pure st gh) (l2.trans (.pure st)) (em σ ρ ρ2 G H G2 H2 G3 H3 v d R2 l2 pv)) q2)
theorem se_op {op : Operator} {r : R2} {o : O2} (hr : OpR X (binaryOp op) r) (ho : Op2 K π r o) (em : Emb K π φ) (ha : SE K (fE K) X a ma) (hb : SE K (fV K) X b mb) : SE K φ X (.BinOp a op b pos) (mOp o ma mb) :=
  ⟨mo_op ho.mono ha.mono hb.mono, pe_weak (pe_op hr ha.pe hb.pe) (t_op ho em ha hb)⟩
theorem se_cmp {op : CmpOp} {r : R2} {o : O2} (hr : OpR X (compareOp op) r) (ho : Op2 K π r o) (em : Emb K π φ) (ha : SE K (fE K) X a ma) (hb : SE K (fV K) X b mb) (hm : behindInMarks op b = false) : SE K φ X (.Compare a [op] [b] pos) (mOp o ma mb) :=
  ⟨mo_op ho.mono ha.mono hb.mono, pe_weak (pe_cmpR hr ha.pe hb.pe hm) (t_op ho em ha hb)⟩
theorem se_ix {r : R2} {o : O2} (hr : IxR X r) (ho : Op2 K π r o) (em : Emb K π φ) (ha : SE K (fE K) X a ma) (hb : SE K (fV K) X b mb) (hs : PlainIx b) : SE K φ X (.Subscript a b pos) (mOp o ma mb) :=
  ⟨mo_op ho.mono ha.mono hb.mono, pe_weak (pe_ix hr ha.pe hb.pe hs) (t_op ho em ha hb)⟩
theorem se_ixO {r : R2} {o : O2} {i : Nat} (hr : IxR X r) (ho : Op2 K π r o) (em : Emb K π φ) (ha : PE X a (tVar i)) (hb : SE K (fV K) X b mb) (hs : PlainIx b) : SE K φ X (.Subscript a b pos) (mOpO o i mb) :=
  ⟨mo_opO ho.mono hb.mono, pe_weak (pe_ix hr ha hb.pe hs) (t_opO ho em hb)⟩
theorem se_un {op : UnaryOp} {r : V → Hp → VK → Prop} {o : O1} (hr : UnR X (unaryOp op) r) (ho : Op1 K π r o) (em : Emb K π φ) (ha : SE K (fV K) X a ma) : SE K φ X (.UnaryOp op a pos) (mUn o ma) := by
  refine ⟨mo_un ho.mono ha.mono, pe_weak (pe_un hr ha.pe) fun σ H Q h => ?_⟩
  obtain ⟨G, ρ, R, h⟩ := h
  refine ⟨G, ρ, R, ha.mono ρ _ _ (fun da ρ1 q x G1 H1 R1 l1 rx => ?_) h⟩
  exact ho.run G1 H1 x da Q R1.gh rx (ho.mono _ _ _ (fun d q3 v G3 H3 gh st pv => q3 v G3 H3 (R1.pure st gh) (l1.trans (.pure st)) (em σ ρ ρ1 G H G1 H1 G3 H3 v d R1 l1 pv)) q)
/-! ### tests -/
def mTest (m : ME) : MT := fun ρ k => m ρ fun d ρ1 => match d with
  | .bool b => k b ρ1
  | _ => False
theorem mo_test {m : ME} (h : Mo m) : Mo (mTest m) := fun ρ k k' w => h ρ _ _ fun d ρ1 => by
  cases d <;> first | exact w _ _ | exact id
theorem st_val {e : Expr} {m : ME} (h : SE K (fE K) X e m) (he : ∀ whole, isTrue e X.env whole = (do let v ← whole; standAt e.pos; holding [v] (truthy v)) := by intro _; rfl) : ST K X e (mTest m) := by
  refine ⟨mo_test h.mono, pt_weak (pt_val h.pe he) fun σ H Q ⟨G, ρ, R, q⟩ => ⟨G, ρ, R, h.mono ρ _ _ (fun d ρ1 q v G1 H1 R1 l r => ?_) q⟩⟩
  cases d with
  | bool b =>
    cases r
    exact ⟨b, rfl, q G1 H1 R1 l⟩
  | _ => exact q.elim
theorem st_cmp {op : CmpOp} {r : R2} {o : O2} (hr : OpR X (compareOp op) r) (ho : Op2 K (pE K) r o) (ha : SE K (fE K) X a ma) (hb : SE K (fV K) X b mb) (hm : behindInMarks op b = false) : ST K X (.Compare a [op] [b] pos) (mTest (mOp o ma mb)) := by
  refine ⟨mo_test (mo_op ho.mono ha.mono hb.mono), pt_weak (pt_cmpR hr ha.pe hb.pe hm) fun σ H Q ⟨G, ρ, R, q⟩ => ?_⟩
  refine t_op (φ := fE K) ho embE ha hb σ H _ ⟨G, ρ, R, mo_op ho.mono ha.mono hb.mono ρ _ _ (fun d ρ1 q v G1 H1 R1 l r => ?_) q⟩
  cases d with
  | bool b =>
    cases r
    exact ⟨b, rfl, q G1 H1 R1 l⟩
  | _ => exact q.elim
def mNot (t : MT) : MT := fun ρ k => t ρ fun b ρ1 => k (!b) ρ1
def mAnd (t u : MT) : MT := fun ρ k => t ρ fun b ρ1 => if b = true then u ρ1 k else k false ρ1
def mOr (t u : MT) : MT := fun ρ k => t ρ fun b ρ1 => if b = true then k true ρ1 else u ρ1 k
variable {tm um : MT}
theorem st_not (h : ST K X a tm) : ST K X (.UnaryOp .Not a pos) (mNot tm) :=
  ⟨fun ρ k k' w => h.mono ρ _ _ fun b ρ1 => w _ _, pt_weak (pt_not h.pt) fun σ H Q ⟨G, ρ, R, q⟩ => ⟨G, ρ, R, q⟩⟩
structure SW (K : PySem.W.Frag) (X : Cx) (e : Expr) (m : MT) : Prop where
  mono : Mo m
  pw : PW X e (tT K m)
theorem pw_weak {e : Expr} {t t' : TT} (h : PW X e t) (w : ∀ σ H Q, t' σ H Q → t σ H Q) : PW X e t' := ⟨fun wh pins s σ H Q I q => h.run wh pins s σ H Q I (w σ H Q q)⟩
theorem sw_and1 (h : ST K X a tm) : SW K X (.BoolOp .And [a] pos) tm := ⟨h.mono, pw_and1 h.pt⟩
theorem sw_or1 (h : ST K X a tm) : SW K X (.BoolOp .Or [a] pos) tm := ⟨h.mono, pw_or1 h.pt⟩
theorem mo_and (h : Mo tm) (g : Mo um) : Mo (mAnd tm um) := fun ρ k k' w => h ρ _ _ fun c ρ1 q => by
  cases c
  · exact w _ _ q
  · exact g ρ1 _ _ w q
theorem mo_or (h : Mo tm) (g : Mo um) : Mo (mOr tm um) := fun ρ k k' w => h ρ _ _ fun c ρ1 q => by
  cases c
  · exact g ρ1 _ _ w q
  · exact w _ _ q
theorem t_and (h : Mo tm) (g : Mo um) (σ : L2.St) (H : Hp) (Q : Bool → Hp → Prop) (q : tT K (mAnd tm um) σ H Q) : tAnd (tT K tm) (tT K um) σ H Q := by
  obtain ⟨G, ρ, R, q⟩ := q
  refine ⟨G, ρ, R, h ρ _ _ (fun c ρ1 q G1 H1 R1 l => ?_) q⟩
  cases c
  · exact q G1 H1 R1 l
  · exact ⟨G1, ρ1, R1, g ρ1 _ _ (fun b ρ2 q G2 H2 R2 l2 => q G2 H2 R2 (l.trans l2)) q⟩
theorem t_or (h : Mo tm) (g : Mo um) (σ : L2.St) (H : Hp) (Q : Bool → Hp → Prop) (q : tT K (mOr tm um) σ H Q) : tOr (tT K tm) (tT K um) σ H Q := by
  obtain ⟨G, ρ, R, q⟩ := q
  refine ⟨G, ρ, R, h ρ _ _ (fun c ρ1 q G1 H1 R1 l => ?_) q⟩
  cases c
  · exact ⟨G1, ρ1, R1, g ρ1 _ _ (fun b ρ2 q G2 H2 R2 l2 => q G2 H2 R2 (l.trans l2)) q⟩
  · exact q G1 H1 R1 l
variable {rest : List Expr}
theorem sw_and (h : ST K X a tm) (g : SW K X (.BoolOp .And (b :: rest) pos) um) : SW K X (.BoolOp .And (a :: b :: rest) pos) (mAnd tm um) := ⟨mo_and h.mono g.mono, pw_weak (pw_and h.pt g.pw) (t_and h.mono g.mono)⟩
theorem sw_or (h : ST K X a tm) (g : SW K X (.BoolOp .Or (b :: rest) pos) um) : SW K X (.BoolOp .Or (a :: b :: rest) pos) (mOr tm um) := ⟨mo_or h.mono g.mono, pw_weak (pw_or h.pt g.pw) (t_or h.mono g.mono)⟩
theorem SW.st {e : Expr} (h : SW K X e tm) : ST K X e tm := ⟨h.mono, h.pw.pt⟩
/-! and, or, not as values: of truths -/
def mAndV (ma mb : ME) : ME := fun ρ k => ma ρ fun d ρ1 => match d with
  | .bool true => mb ρ1 k
  | .bool false => k (.bool false) ρ1
  | _ => False
def mOrV (ma mb : ME) : ME := fun ρ k => ma ρ fun d ρ1 => match d with
  | .bool true => k (.bool true) ρ1
  | .bool false => mb ρ1 k
  | _ => False
def mNotV (ma : ME) : ME := fun ρ k => ma ρ fun d ρ1 => match d with
  | .bool b => k (.bool !b) ρ1
  | _ => False
theorem se_one {op} (h : SE K φ X a ma) : SE K φ X (.BoolOp op [a] pos) ma := ⟨h.mono, pe_one h.pe⟩
theorem se_and (h : SE K (fE K) X a ma) (g : SE K (fE K) X (.BoolOp .And (b :: rest) pos) mb) : SE K (fE K) X (.BoolOp .And (a :: b :: rest) pos) (mAndV ma mb) := by
  constructor
  · intro ρ k k' w
    refine h.mono ρ _ _ fun d ρ1 q => ?_
    rcases d with _ | (_ | _) | _ | _ | _ | _ | _ | _
    all_goals first | exact q.elim | exact w _ _ q | exact g.mono ρ1 _ _ w q
  · refine pe_weak (pe_and h.pe g.pe) fun σ H Q ⟨G, ρ, R, q⟩ => ⟨G, ρ, R, h.mono ρ _ _ (fun d ρ1 q v G1 H1 R1 l r => ?_) q⟩
    rcases d with _ | (_ | _) | _ | _ | _ | _ | _ | _
    all_goals first | exact q.elim | skip
    · cases r
      exact ⟨false, rfl, q _ G1 H1 R1 l (.bl false)⟩
    · cases r
      exact ⟨true, rfl, G1, ρ1, R1, g.mono ρ1 _ _ (fun d ρ2 q v G2 H2 R2 l2 => q v G2 H2 R2 (l.trans l2)) q⟩
theorem se_or (h : SE K (fE K) X a ma) (g : SE K (fE K) X (.BoolOp .Or (b :: rest) pos) mb) : SE K (fE K) X (.BoolOp .Or (a :: b :: rest) pos) (mOrV ma mb) := by
  constructor
  · intro ρ k k' w
    refine h.mono ρ _ _ fun d ρ1 q => ?_
    rcases d with _ | (_ | _) | _ | _ | _ | _ | _ | _
    all_goals first | exact q.elim | exact w _ _ q | exact g.mono ρ1 _ _ w q
  · refine pe_weak (pe_or h.pe g.pe) fun σ H Q ⟨G, ρ, R, q⟩ => ⟨G, ρ, R, h.mono ρ _ _ (fun d ρ1 q v G1 H1 R1 l r => ?_) q⟩
    rcases d with _ | (_ | _) | _ | _ | _ | _ | _ | _
    all_goals first | exact q.elim | skip
    · cases r
      exact ⟨false, rfl, G1, ρ1, R1, g.mono ρ1 _ _ (fun d ρ2 q v G2 H2 R2 l2 => q v G2 H2 R2 (l.trans l2)) q⟩
    · cases r
      exact ⟨true, rfl, q _ G1 H1 R1 l (.bl true)⟩
theorem se_not (h : SE K (fE K) X a ma) : SE K (fE K) X (.UnaryOp .Not a pos) (mNotV ma) := by
  constructor
  · intro ρ k k' w
    refine h.mono ρ _ _ fun d ρ1 q => ?_
    cases d <;> first | exact q.elim | exact w _ _ q
  · refine pe_weak (pe_not h.pe) fun σ H Q ⟨G, ρ, R, q⟩ => ⟨G, ρ, R, h.mono ρ _ _ (fun d ρ1 q v G1 H1 R1 l r => ?_) q⟩
    cases d <;> first | exact q.elim | skip
    cases r
    exact ⟨_, rfl, q _ G1 H1 R1 l (.bl _)⟩
def mIfE (t : MT) (ma mb : ME) : ME := fun ρ k => t ρ fun c ρ1 => if c = true then ma ρ1 k else mb ρ1 k
theorem se_if {c : Expr} (hc : ST K X c tm) (h : SE K φ X a ma) (g : SE K φ X b mb) (hφ : ∀ (σ : L2.St) (ρ ρ1 ρ2 : Cs) (G H G1 H1 G2 H2 : Hp) (v : V) (d : D), Lk 0 σ G H ρ σ G1 H1 ρ1 → φ H1 σ ρ2 G2 H2 v d → φ H σ ρ2 G2 H2 v d) : SE K φ X (.IfExp c a b pos) (mIfE tm ma mb) := by
  constructor
  · intro ρ k k' w
    refine hc.mono ρ _ _ fun c ρ1 q => ?_
    cases c
    · exact g.mono ρ1 _ _ w q
    · exact h.mono ρ1 _ _ w q
  · refine pe_weak (pe_ifExp hc.pt h.pe g.pe) fun σ H Q ⟨G, ρ, R, q⟩ => ⟨G, ρ, R, hc.mono ρ _ _ (fun c ρ1 q G1 H1 R1 l => ?_) q⟩
    cases c
    · exact ⟨G1, ρ1, R1, g.mono ρ1 _ _ (fun d ρ2 q v G2 H2 R2 l2 r => q v G2 H2 R2 (l.trans l2) (hφ σ ρ ρ1 ρ2 G H G1 H1 G2 H2 v d l r)) q⟩
    · exact ⟨G1, ρ1, R1, h.mono ρ1 _ _ (fun d ρ2 q v G2 H2 R2 l2 r => q v G2 H2 R2 (l.trans l2) (hφ σ ρ ρ1 ρ2 G H G1 H1 G2 H2 v d l r)) q⟩
theorem keepE : ∀ (σ : L2.St) (ρ ρ1 ρ2 : Cs) (G H G1 H1 G2 H2 : Hp) (v : V) (d : D), Lk 0 σ G H ρ σ G1 H1 ρ1 → fE K H1 σ ρ2 G2 H2 v d → fE K H σ ρ2 G2 H2 v d := fun _ _ _ _ _ _ _ _ _ _ _ _ _ h => h
/-! ### arguments, displays -/
def aNil : MA := fun ρ k => k [] ρ
def aCons (m : ME) (r : MA) : MA := fun ρ k => m ρ fun d ρ1 => r ρ1 fun ds ρ2 => k (d :: ds) ρ2
variable {es : List Expr} {mr : MA}
theorem sa_nil : SA K X [] aNil := ⟨fun ρ k k' w => w _ _, pa_weak pa_nil fun σ H Q ⟨G, ρ, R, q⟩ => q [] G H R .refl .nil⟩
theorem mo_cons (h : Mo ma) (g : Mo mr) : Mo (aCons ma mr) := fun ρ k k' w => h ρ _ _ fun d ρ1 => g ρ1 _ _ fun ds ρ2 => w _ _
theorem t_cons (h : Mo ma) (g : Mo mr) (σ : L2.St) (H : Hp) (Q : List V → Hp → Prop) (q : tA K (aCons ma mr) σ H Q) : tCons (tE K (fE K) ma) (tA K mr) σ H Q := by
  obtain ⟨G, ρ, R, q⟩ := q
  exact ⟨G, ρ, R, h ρ _ _ (fun d ρ1 q v G1 H1 R1 l r => ⟨G1, ρ1, R1, g ρ1 _ _ (fun ds ρ2 q vs G2 H2 R2 l2 rs => q _ G2 H2 R2 (l.trans l2) (.cons (rp_same l2.st.gg r) rs)) q⟩) q⟩
theorem sa_cons (h : SE K (fE K) X a ma) (g : SA K X es mr) (hs : starEach (a :: es) X.env = (false, eval a X.env) :: starEach es X.env := by rfl) : SA K X (a :: es) (aCons ma mr) :=
  ⟨mo_cons h.mono g.mono, pa_weak (pa_cons h.pe g.pa hs) (t_cons h.mono g.mono)⟩
/-- an object of one's own making, outside of G -/
theorem stp_new {G H : Hp} {p : Addr} {o : HO} (h : H p = none) : Stp Pure G H G (upd H p o) :=
  ⟨Same.refl G, fun a u _ e => (upd_ne (ne_of_none e h)).trans e, fun _ _ _ _ g _ => g, fun a e => by
    by_cases q : a = p
    · subst q; exact h
    · rw [upd_ne q] at e; exact e⟩
/-- .. within G -/
theorem stp_newG {G H : Hp} {p : Addr} {o : HO} (s : Same G H) (h : H p = none) : Stp Pure G H (upd G p o) (upd H p o) :=
  ⟨same_upd (s.free h), fun a u _ e => (upd_ne (ne_of_none e h)).trans e, fun a u _ e g _ => (upd_ne (ne_of_none e h)).trans g, fun a e => by
    by_cases q : a = p
    · subst q; exact h
    · rw [upd_ne q] at e; exact e⟩
theorem same_new2 {G H : Hp} {p : Addr} {o : HO} (s : Same G H) (h : H p = none) : Same (upd G p o) (upd H p o) := fun b u e => by
  by_cases q : b = p
  · subst q; rw [upd_same] at e ⊢; exact e
  · rw [upd_ne q] at e ⊢; exact s b u e
theorem same_new1 {G H : Hp} {p : Addr} {o : HO} (s : Same G H) (h : H p = none) : Same G (upd H p o) := fun b u e => (upd_ne (ne_of_none (s b u e) h)).trans (s b u e)
def mTup (m : MA) : ME := fun ρ k => m ρ fun ds ρ1 => ds.length ≤ sizeLine ∧ k (.tuple .mad ds) ρ1
def mLst (m : MA) : ME := fun ρ k => m ρ fun ds ρ1 => ds.length ≤ sizeLine ∧ k (.list ds) ρ1
theorem se_tup {x1} (h : SA K X es mr) : SE K (fE K) X (.Tuple es x1 pos) (mTup mr) := by
  refine ⟨fun ρ k k' w => h.mono ρ _ _ fun ds ρ1 q => ⟨q.1, w _ _ q.2⟩, pe_weak (pe_tup h.pa) fun σ H Q ⟨G, ρ, R, q⟩ => ⟨G, ρ, R, h.mono ρ _ _ (fun ds ρ1 q vs G1 H1 R1 l rs => ⟨by rw [rps_len rs]; exact q.1, fun p np => ?_⟩) q⟩⟩
  have st := stp_newG (o := .tup vs) R1.gh np
  exact q.2 _ _ _ (R1.pure st (same_new2 R1.gh np)) (l.trans (.pure st)) (.tup upd_same (rps_same st.gg rs))
theorem se_lst (h : SA K X es mr) : SE K (fF K) X (.List es pos) (mLst mr) := by
  refine ⟨fun ρ k k' w => h.mono ρ _ _ fun ds ρ1 q => ⟨q.1, w _ _ q.2⟩, pe_weak (pe_lst h.pa) fun σ H Q ⟨G, ρ, R, q⟩ => ⟨G, ρ, R, h.mono ρ _ _ (fun ds ρ1 q vs G1 H1 R1 l rs => ⟨by rw [rps_len rs]; exact q.1, fun p np => ?_⟩) q⟩⟩
  have st := stp_new (G := G1) (o := .lst vs) np
  exact q.2 _ _ _ (R1.pure st (same_new1 R1.gh np)) (l.trans (.pure st)) ⟨p, _, rfl, l.st.dom p np, fun w => R1.old w np, upd_same, R1.gh.free np, .lst rs⟩
end
end Dl

set_option Elab.async false
set_option linter.all false
set_option maxRecDepth 100000
set_option maxHeartbeats 4000000
namespace Dl
open PySem PySem.Spec PyProof.Rows L2
theorem Lk.up {n : Nat} {σ : L2.St} {G H G' H' : Hp} {ρ ρ' : Cs} (l : Lk 0 σ G H ρ σ G' H' ρ') : Lk n σ G H ρ σ G' H' ρ' := ⟨l.st, l.sb, fun _ _ => rfl⟩
section
variable {K : PySem.W.Frag} {X : Cx} {n : Nat} {st : Stmt} {sts : List Stmt} {ms mu : MS} {e c : Expr} {m : ME} {tm : MT} {pos : Pos}
/-! ### statements -/
def sNext : MS := fun E ρ => E.nx ρ
def sSeq (a b : MS) : MS := fun E ρ => a { E with nx := b E } ρ
def sRet (m : ME) : MS := fun E ρ => m ρ E.rt
def sRetN : MS := fun E ρ => E.rt .none ρ
def sDrop (m : ME) : MS := fun E ρ => m ρ fun _ ρ1 => E.nx ρ1
def sIf (t : MT) (a b : MS) : MS := fun E ρ => t ρ fun c ρ1 => if c = true then a E ρ1 else b E ρ1
def sBreak : MS := fun E ρ => E.bk ρ
def sCont : MS := fun E ρ => E.ct ρ
def sSet (i : Nat) (m : ME) : MS := fun E ρ => m ρ fun d ρ1 => E.nx (ρ1.set i (.fro d))
def sSetO (i : Nat) (m : ME) : MS := fun E ρ => m ρ fun d ρ1 => E.nx (ρ1.set i (.own d))
theorem mos_seq (h : MoS ms) (g : MoS mu) : MoS (sSeq ms mu) := fun ρ E E' a b c d => h ρ _ _ (fun ρ1 => g ρ1 _ _ a b c d) b c d
theorem sb_nil : SB K n X [] sNext := ⟨fun ρ E E' a _ _ _ => a ρ, pss_weak pss_nil fun T σ H ⟨G, ρ, E, R, q, a, _⟩ => a σ G H ρ R .refl q⟩
theorem t_seq (h : MoS ms) (g : MoS mu) (T : Ends) (σ : L2.St) (H : Hp) (q : tS K n (sSeq ms mu) T σ H) : tSeq (tS K n ms) (tS K n mu) T σ H := by
  obtain ⟨G, ρ, E, R, q, a, b, c, d⟩ := q
  refine ⟨G, ρ, _, R, q, fun σ1 G1 H1 ρ1 R1 l1 q1 => ?_, b, c, d⟩
  exact ⟨G1, ρ1, E, R1, q1, fun σ2 G2 H2 ρ2 R2 l2 => a σ2 G2 H2 ρ2 R2 (l1.trans l2), fun v d σ2 G2 H2 ρ2 R2 l2 => b v d σ2 G2 H2 ρ2 R2 (l1.trans l2), fun σ2 G2 H2 ρ2 R2 l2 => c σ2 G2 H2 ρ2 R2 (l1.trans l2), fun σ2 G2 H2 ρ2 R2 l2 => d σ2 G2 H2 ρ2 R2 (l1.trans l2)⟩
theorem sb_cons (h : SS K n X st ms) (g : SB K n X sts mu) : SB K n X (st :: sts) (sSeq ms mu) := ⟨mos_seq h.mono g.mono, pss_weak (pss_cons h.ps g.ps) (t_seq h.mono g.mono)⟩
theorem sb_one (h : SS K n X st ms) : SB K n X [st] ms := ⟨h.mono, pss_one h.ps⟩
theorem ss_pass : SS K n X (.Pass pos) sNext := ⟨fun ρ E E' a _ _ _ => a ρ, ps_weak ps_pass fun T σ H ⟨G, ρ, E, R, q, a, _⟩ => a σ G H ρ R .refl q⟩
theorem ss_doc {x j pos pos'} : SS K n X (.Expr (.Constant (.str x) j pos) pos') sNext := ⟨fun ρ E E' a _ _ _ => a ρ, ps_weak ps_doc fun T σ H ⟨G, ρ, E, R, q, a, _⟩ => a σ G H ρ R .refl q⟩
theorem ss_break : SS K n X (.Break pos) sBreak := ⟨fun ρ E E' _ _ a _ => a ρ, ps_weak ps_break fun T σ H ⟨G, ρ, E, R, q, _, _, a, _⟩ => a σ G H ρ R .refl q⟩
theorem ss_continue : SS K n X (.Continue pos) sCont := ⟨fun ρ E E' _ _ _ a => a ρ, ps_weak ps_continue fun T σ H ⟨G, ρ, E, R, q, _, _, _, a⟩ => a σ G H ρ R .refl q⟩
theorem ss_ret (h : SE K (fE K) X e m) : SS K n X (.Return (some e) pos) (sRet m) :=
  ⟨fun ρ E E' _ b _ _ => h.mono ρ _ _ b, ps_weak (ps_ret h.pe) fun T σ H ⟨G, ρ, E, R, q, _, b, _⟩ => ⟨G, ρ, R, h.mono ρ _ _ (fun d ρ1 q v G1 H1 R1 l r => b v d σ G1 H1 ρ1 R1 l.up r q) q⟩⟩
theorem ss_retN : SS K n X (.Return none pos) sRetN := ⟨fun ρ E E' _ b _ _ => b _ ρ, ps_weak ps_retN fun T σ H ⟨G, ρ, E, R, q, _, b, _⟩ => b .non .none σ G H ρ R .refl .non q⟩
theorem ss_expr {φ : Fl} (h : SE K φ X e m) (hs : swapsWith e none pos.line X.env = pure false := by rfl) : SS K n X (.Expr e pos) (sDrop m) :=
  ⟨fun ρ E E' a _ _ _ => h.mono ρ _ _ fun _ ρ1 => a ρ1, ps_weak (ps_expr h.pe hs) fun T σ H ⟨G, ρ, E, R, q, a, _⟩ => ⟨G, ρ, R, h.mono ρ _ _ (fun d ρ1 q v G1 H1 R1 l r => a σ G1 H1 ρ1 R1 l.up q) q⟩⟩
theorem ss_if {a b : List Stmt} (hc : ST K X c tm) (h : SB K n X a ms) (g : SB K n X b mu) : SS K n X (.If c a b pos) (sIf tm ms mu) := by
  refine ⟨fun ρ E E' a b c d => hc.mono ρ _ _ fun t ρ1 q => ?_, ps_weak (ps_if hc.pt h.ps g.ps) fun T σ H ⟨G, ρ, E, R, q, a, b, c, d⟩ => ⟨G, ρ, R, hc.mono ρ _ _ (fun t ρ1 q G1 H1 R1 l => ?_) q⟩⟩
  · cases t
    · exact g.mono ρ1 _ _ a b c d q
    · exact h.mono ρ1 _ _ a b c d q
  · have l := l.up (n := n)
    cases t
    · exact ⟨G1, ρ1, E, R1, q, fun σ2 G2 H2 ρ2 R2 l2 => a σ2 G2 H2 ρ2 R2 (l.trans l2), fun v d σ2 G2 H2 ρ2 R2 l2 => b v d σ2 G2 H2 ρ2 R2 (l.trans l2), fun σ2 G2 H2 ρ2 R2 l2 => c σ2 G2 H2 ρ2 R2 (l.trans l2), fun σ2 G2 H2 ρ2 R2 l2 => d σ2 G2 H2 ρ2 R2 (l.trans l2)⟩
    · exact ⟨G1, ρ1, E, R1, q, fun σ2 G2 H2 ρ2 R2 l2 => a σ2 G2 H2 ρ2 R2 (l.trans l2), fun v d σ2 G2 H2 ρ2 R2 l2 => b v d σ2 G2 H2 ρ2 R2 (l.trans l2), fun σ2 G2 H2 ρ2 R2 l2 => c σ2 G2 H2 ρ2 R2 (l.trans l2), fun σ2 G2 H2 ρ2 R2 l2 => d σ2 G2 H2 ρ2 R2 (l.trans l2)⟩
/-! stores -/
theorem set_ne {α : Type} {l : List α} {i j : Nat} {x : α} (h : j ≠ i) : (l.set i x)[j]? = l[j]? := List.getElem?_set_ne (fun z => h z.symm)
theorem ow_set {σ : L2.St} {ρ : Cs} {i : Nat} {v : V} {c : Cell} {p : Addr} (hl : σ.length = ρ.length) (w : Ow (σ.set i (some v)) (ρ.set i c) p) : Ow σ ρ p ∨ (v = .ref p ∧ ∃ d, c = .own d) := by
  obtain ⟨j, d, h1, h2⟩ := w
  rcases set_get h1 with ⟨rfl, hj, z⟩ | ⟨ne, z⟩
  · rw [List.getElem?_set_self (by omega)] at h2
    cases h2
    exact .inr ⟨rfl, d, z.symm⟩
  · rw [set_ne ne] at h2
    exact .inl ⟨j, d, z, h2⟩
theorem Rel.set {σ : L2.St} {G H : Hp} {ρ : Cs} {i : Nat} {v : V} {d : D} (R : Rel K σ G H ρ) (r : Rp K G v d) : Rel K (σ.set i (some v)) G H (ρ.set i (.fro d)) := by
  have hl := R.len
  refine ⟨R.gh, by rw [List.length_set, List.length_set]; exact R.len, fun j c q => ?_, fun j c q => ?_, fun j l a c c' q q' h h' => ?_⟩
  · rcases set_get q with ⟨rfl, hj, z⟩ | ⟨ne, z⟩
    · cases z
      exact ⟨v, by rw [List.getElem?_set_self (by omega)], r⟩
    · rw [set_ne ne]; exact R.fro j c z
  · rcases set_get q with ⟨rfl, hj, z⟩ | ⟨ne, z⟩
    · cases z
    · rw [set_ne ne]; exact R.own j c z
  · rcases set_get q with ⟨_, _, z⟩ | ⟨ne, z⟩
    · cases z
    · rcases set_get q' with ⟨_, _, z'⟩ | ⟨ne', z'⟩
      · cases z'
      · rw [set_ne ne] at h
        rw [set_ne ne'] at h'
        exact R.apart j l a c c' z z' h h'
theorem Rel.setO {σ : L2.St} {G H : Hp} {ρ : Cs} {i : Nat} {p : Addr} {o : HO} {d : D} (R : Rel K σ G H ρ) (hp : H p = some o) (gp : G p = none) (nw : ¬ Ow σ ρ p) (r : ObR K G o d) : Rel K (σ.set i (some (.ref p))) G H (ρ.set i (.own d)) := by
  have hl := R.len
  refine ⟨R.gh, by rw [List.length_set, List.length_set]; exact R.len, fun j c q => ?_, fun j c q => ?_, fun j l a c c' q q' h h' => ?_⟩
  · rcases set_get q with ⟨rfl, hj, z⟩ | ⟨ne, z⟩
    · cases z
    · rw [set_ne ne]; exact R.fro j c z
  · rcases set_get q with ⟨rfl, hj, z⟩ | ⟨ne, z⟩
    · cases z
      exact ⟨p, o, by rw [List.getElem?_set_self (by omega)], hp, gp, r⟩
    · rw [set_ne ne]; exact R.own j c z
  · rcases set_get q with ⟨e1, hj, z⟩ | ⟨ne, z⟩
    · rcases set_get q' with ⟨e2, _, z'⟩ | ⟨ne', z'⟩
      · exact e1.trans e2.symm
      · subst e1
        rw [set_ne ne'] at h'
        rw [List.getElem?_set_self (by omega)] at h
        cases h
        exact (nw ⟨l, c', z', h'⟩).elim
    · rcases set_get q' with ⟨e2, hj, z'⟩ | ⟨ne', z'⟩
      · subst e2
        rw [set_ne ne] at h
        rw [List.getElem?_set_self (by omega)] at h'
        cases h'
        exact (nw ⟨j, c, z, h⟩).elim
      · rw [set_ne ne] at h
        rw [set_ne ne'] at h'
        exact R.apart j l a c c' z z' h h'
theorem Lk.set {σ : L2.St} {G H G' H' : Hp} {ρ ρ' : Cs} {i : Nat} {v : V} {d : D} (l : Lk n σ G H ρ σ G' H' ρ') (hl : σ.length = ρ'.length) (hi : n ≤ i) : Lk n σ G H ρ (σ.set i (some v)) G' H' (ρ'.set i (.fro d)) :=
  ⟨l.st, fun p w => by
    rcases ow_set hl w with z | ⟨_, _, z⟩
    · exact l.sb p z
    · exact (nomatch z), fun j hj => set_ne (by omega)⟩
theorem Lk.setO {σ : L2.St} {G H G' H' : Hp} {ρ ρ' : Cs} {i : Nat} {p : Addr} {d : D} (l : Lk n σ G H ρ σ G' H' ρ') (hl : σ.length = ρ'.length) (hi : n ≤ i) (h0 : H p = none) : Lk n σ G H ρ (σ.set i (some (.ref p))) G' H' (ρ'.set i (.own d)) :=
  ⟨l.st, fun q w => by
    rcases ow_set hl w with z | ⟨z, _, _⟩
    · exact l.sb q z
    · cases z
      exact .inr h0, fun j hj => set_ne (by omega)⟩
theorem ss_set {i : Nat} {x : Str} {pos' : Pos} (hn : n ≤ i) (hN : X.N.Nodup) (hi : X.N[i]? = some x) (hx : Loc X.env.scope x) (h : SE K (fE K) X e m) (hs : swapsWith e (some (.Name x pos')) pos.line X.env = pure false := by rfl) (hf : X.fn x = true ∨ X.env.scope.names.lookup x = some .local := by first | exact .inl rfl | exact .inr rfl | assumption) :
    SS K n X (.Assign [.Name x pos'] e pos) (sSet i m) :=
  ⟨fun ρ E E' a _ _ _ => h.mono ρ _ _ fun _ ρ1 => a _, ps_weak (ps_set hN hi hx h.pe hs hf) fun T σ H ⟨G, ρ, E, R, q, a, _⟩ => ⟨G, ρ, R, h.mono ρ _ _ (fun d ρ1 q v G1 H1 R1 l r => a _ G1 H1 _ (R1.set r) (l.up.set R1.len hn) q) q⟩⟩
theorem ss_setO {i : Nat} {x : Str} {pos' : Pos} (hn : n ≤ i) (hN : X.N.Nodup) (hi : X.N[i]? = some x) (hx : Loc X.env.scope x) (h : SE K (fF K) X e m) (hs : swapsWith e (some (.Name x pos')) pos.line X.env = pure false := by rfl) (hf : X.fn x = true ∨ X.env.scope.names.lookup x = some .local := by first | exact .inl rfl | exact .inr rfl | assumption) :
    SS K n X (.Assign [.Name x pos'] e pos) (sSetO i m) := by
  refine ⟨fun ρ E E' a _ _ _ => h.mono ρ _ _ fun _ ρ1 => a _, ps_weak (ps_set hN hi hx h.pe hs hf) fun T σ H ⟨G, ρ, E, R, q, a, _⟩ => ⟨G, ρ, R, h.mono ρ _ _ (fun d ρ1 q v G1 H1 R1 l r => ?_) q⟩⟩
  obtain ⟨p, o, rfl, h0, nw, hp, gp, ob⟩ := r
  exact a _ G1 H1 _ (R1.setO hp gp nw ob) (l.up.setO R1.len hn h0) q
/-! targets -/
abbrev MG := D → Cs → (Cs → Prop) → Prop
abbrev MGs := List D → Cs → (Cs → Prop) → Prop
/-- slots beside ts stay -/
def Ch (ts : List Nat) (σ σ' : L2.St) : Prop := σ'.length = σ.length ∧ ∀ j, j ∉ ts → σ'[j]? = σ[j]?
theorem Ch.refl {ts : List Nat} {σ : L2.St} : Ch ts σ σ := ⟨rfl, fun _ _ => rfl⟩
structure SG (K : PySem.W.Frag) (n : Nat) (ts : List Nat) (g : TG) (mg : MG) : Prop where
  mono : ∀ d ρ (k k' : Cs → Prop), (∀ ρ', k ρ' → k' ρ') → mg d ρ k → mg d ρ k'
  run : ∀ (σ : L2.St) (G H : Hp) (ρ : Cs) (v : V) (d : D) (Q : L2.St → Hp → Prop), Rel K σ G H ρ → Rp K G v d → mg d ρ (fun ρ' => ∀ σ', Rel K σ' G H ρ' → Lk n σ G H ρ σ' G H ρ' → Ch ts σ σ' → Q σ' H) → g v σ H Q
structure SGs (K : PySem.W.Frag) (n : Nat) (ts : List Nat) (g : TGs) (mg : MGs) : Prop where
  mono : ∀ d ρ (k k' : Cs → Prop), (∀ ρ', k ρ' → k' ρ') → mg d ρ k → mg d ρ k'
  run : ∀ (σ : L2.St) (G H : Hp) (ρ : Cs) (vs : List V) (ds : List D) (Q : L2.St → Hp → Prop), Rel K σ G H ρ → RpAll K G vs ds → mg ds ρ (fun ρ' => ∀ σ', Rel K σ' G H ρ' → Lk n σ G H ρ σ' G H ρ' → Ch ts σ σ' → Q σ' H) → g vs σ H Q
def mgName (i : Nat) : MG := fun d ρ k => k (ρ.set i (.fro d))
def mgNil : MGs := fun ds ρ k => match ds with
  | [] => k ρ
  | _ => False
def mgCons (g : MG) (gs : MGs) : MGs := fun ds ρ k => match ds with
  | d :: r => g d ρ fun ρ1 => gs r ρ1 k
  | [] => False
def mgTup (l : Nat) (gs : MGs) : MG := fun d ρ k => match d with
  | .tuple _ ds => ds.length = l ∧ gs ds ρ k
  | _ => False
theorem sg_name {i : Nat} (hn : n ≤ i) : SG K n [i] (gName i) (mgName i) := ⟨fun d ρ k k' w => w _, fun σ G H ρ v d Q R r q => q _ (R.set r) (Lk.refl.set R.len hn) ⟨List.length_set, fun j hj => set_ne (fun z => hj (by rw [z]; exact List.mem_singleton.mpr rfl))⟩⟩
theorem sgs_nil : SGs K n [] gNil mgNil := by
  constructor
  · intro d ρ k k' w
    cases d
    · exact w _
    · exact id
  · intro σ G H ρ vs ds Q R r q
    cases r
    · exact ⟨rfl, q σ R .refl .refl⟩
    · exact q.elim
theorem sgs_cons {g : TG} {gs : TGs} {mg : MG} {mgs : MGs} {ts us : List Nat} (h : SG K n ts g mg) (hs : SGs K n us gs mgs) : SGs K n (ts ++ us) (gCons g gs) (mgCons mg mgs) := by
  constructor
  · intro d ρ k k' w
    cases d
    · exact id
    · exact h.mono _ _ _ _ fun ρ1 => hs.mono _ _ _ _ w
  · intro σ G H ρ vs ds Q R r q
    cases r with
    | nil => exact q.elim
    | cons r rs =>
      refine ⟨_, _, rfl, h.run σ G H ρ _ _ _ R r (h.mono _ _ _ _ (fun ρ1 q σ1 R1 l1 c1 => ?_) q)⟩
      exact hs.run σ1 G H ρ1 _ _ Q R1 rs (hs.mono _ _ _ _ (fun ρ2 q σ2 R2 l2 c2 => q σ2 R2 (l1.trans l2) ⟨c2.1.trans c1.1, fun j hj => (c2.2 j fun z => hj (List.mem_append_right _ z)).trans (c1.2 j fun z => hj (List.mem_append_left _ z))⟩) q)
theorem sg_tup {gs : TGs} {mgs : MGs} {l : Nat} {ts : List Nat} (hs : SGs K n ts gs mgs) : SG K n ts (gTup K l gs) (mgTup l mgs) := by
  constructor
  · intro d ρ k k' w
    cases d <;> first | exact id | exact fun q => ⟨q.1, hs.mono _ _ _ _ w q.2⟩
  · intro σ G H ρ v d Q R r q
    cases d <;> first | exact q.elim | skip
    obtain ⟨p, xs, rfl, s, a, _⟩ := rp_tup r
    exact ⟨_, _, rfl, sqT_same R.gh s, by rw [rps_len a]; exact q.1, hs.run σ G H ρ _ _ Q R a q.2⟩
def sAsg (m : ME) (g : MG) : MS := fun E ρ => m ρ fun d ρ1 => g d ρ1 E.nx
theorem ss_asg {tg : Expr} {g : TG} {mg : MG} {ts : List Nat} (h : SE K (fE K) X e m) (hg : PG X tg g) (sg : SG K n ts g mg) (hs : swapsWithSole [tg] e pos.line X.env = pure false := by rfl) (hw : swappedStores [tg] e X.env = pure none := by rfl)
    (h1 : (assignEach [tg] X.env).map (·.2) = [assign tg X.env] := by rfl) : SS K n X (.Assign [tg] e pos) (sAsg m mg) :=
  ⟨fun ρ E E' a _ _ _ => h.mono ρ _ _ fun _ ρ1 => sg.mono _ _ _ _ a, ps_weak (ps_asg h.pe hg hs hw h1) fun T σ H ⟨G, ρ, E, R, q, a, _⟩ => ⟨G, ρ, R, h.mono ρ _ _ (fun d ρ1 q v G1 H1 R1 l r =>
    sg.run σ G1 H1 ρ1 v d _ R1 r (sg.mono _ _ _ _ (fun ρ2 q σ2 R2 l2 _ => a σ2 G1 H1 ρ2 R2 (l.up.trans l2) q) q)) q⟩⟩
/-! while -/
def sWhile (t : MT) (b : MS) : MS := fun E ρ => ∃ I : Nat → Cs → Prop, (∃ k, I k ρ) ∧ ∀ k ρ, I k ρ → t ρ fun c ρ1 => if c = true then b { E with nx := fun ρ' => ∃ k', k' < k ∧ I k' ρ', ct := fun ρ' => ∃ k', k' < k ∧ I k' ρ', bk := E.nx } ρ1 else E.nx ρ1
theorem ss_while {body : List Stmt} (hp : PassesOwn (model X.prog X.w) X.A X.env X.xe) (hc : ST K X c tm) (hb : SB K n X body ms) : SS K n X (.While c body [] pos) (sWhile tm ms) := by
  constructor
  · rintro ρ E E' a b c d ⟨I, h0, h⟩
    refine ⟨I, h0, fun k ρ hI => hc.mono ρ _ _ (fun t ρ1 q => ?_) (h k ρ hI)⟩
    cases t
    · exact a _ q
    · exact hb.mono ρ1 { E with nx := fun ρ' => ∃ k', k' < k ∧ I k' ρ', ct := fun ρ' => ∃ k', k' < k ∧ I k' ρ', bk := E.nx } _ (fun _ z => z) b a (fun _ z => z) q
  · refine ps_weak (ps_while hp hc.pt hb.ps) fun T σ H ⟨G, ρ, E, R, ⟨I, ⟨k0, h0⟩, h⟩, a, b, c, d⟩ => ?_
    refine ⟨fun k σ' H' => ∃ G' ρ', Rel K σ' G' H' ρ' ∧ Lk n σ G H ρ σ' G' H' ρ' ∧ I k ρ', ⟨k0, G, ρ, R, .refl, h0⟩, ?_⟩
    rintro k σ1 H1 ⟨G1, ρ1, R1, l1, hI⟩
    refine ⟨G1, ρ1, R1, hc.mono ρ1 _ _ (fun t ρ2 q G2 H2 R2 l2 => ?_) (h k ρ1 hI)⟩
    have l2 := l1.trans l2.up
    cases t
    · exact a σ1 G2 H2 ρ2 R2 l2 q
    · refine ⟨_, fun σ' H' z => z, G2, ρ2, _, R2, q, ?_, ?_, ?_, ?_⟩
      · exact fun σ3 G3 H3 ρ3 R3 l3 ⟨k', hk, hI'⟩ => ⟨k', hk, G3, ρ3, R3, l2.trans l3, hI'⟩
      · exact fun v d σ3 G3 H3 ρ3 R3 l3 => b v d σ3 G3 H3 ρ3 R3 (l2.trans l3)
      · exact fun σ3 G3 H3 ρ3 R3 l3 => a σ3 G3 H3 ρ3 R3 (l2.trans l3)
      · exact fun σ3 G3 H3 ρ3 R3 l3 ⟨k', hk, hI'⟩ => ⟨k', hk, G3, ρ3, R3, l2.trans l3, hI'⟩
/-! what is walked -/
/-- J walks the data xs while G' stands -/
def Wk (K : PySem.W.Frag) (J : It) (G : Hp) (xs : List D) : Prop := ∀ G' H', Same G G' → Same G' H' → (∀ i, i < xs.length → J.go i H') ∧ J.stop xs.length H' ∧
  ∀ i x H3, i < xs.length → J.yld i H' x H3 → ∃ G3 d, Same G3 H3 ∧ Stp Pure G' H' G3 H3 ∧ xs[i]? = some d ∧ Rp K G3 x d
abbrev MI := Cs → (List D → Cs → Prop) → Prop
def tI (K : PySem.W.Frag) (m : MI) : TI := fun σ H R => ∃ G ρ, Rel K σ G H ρ ∧ m ρ fun xs ρ' => ∀ J G' H', Rel K σ G' H' ρ' → Lk 0 σ G H ρ σ G' H' ρ' → Wk K J G' xs → R J H'
structure SI (K : PySem.W.Frag) (X : Cx) (tg iter : Expr) (m : MI) : Prop where
  mono : Mo m
  pi : PI X tg iter (tI K m)
theorem pi_weak {tg iter : Expr} {t t' : TI} (h : PI X tg iter t) (w : ∀ σ H R, t' σ H R → t σ H R) : PI X tg iter t' := ⟨fun pins s σ H R I q => h.run pins s σ H R I (w σ H R q)⟩
def mItems (f : D → Option (List D)) (m : ME) : MI := fun ρ k => m ρ fun d ρ1 => match f d with
  | some xs => k xs ρ1
  | none => False
theorem mo_items {f : D → Option (List D)} (h : Mo m) : Mo (mItems f m) := fun ρ k k' w => h ρ _ _ fun d ρ1 => by
  cases f d with
  | none => exact id
  | some xs => exact w _ _
def dLst : D → Option (List D)
  | .list xs => some xs
  | _ => none
def dTup : D → Option (List D)
  | .tuple _ xs => some xs
  | _ => none
theorem rps_get {G : Hp} : ∀ {vs : List V} {ds : List D} {i : Nat} {v : V}, RpAll K G vs ds → vs[i]? = some v → ∃ d, ds[i]? = some d ∧ Rp K G v d
  | _, _, _, _, .nil, h => by cases h
  | _, _, 0, _, .cons r _, h => by cases h; exact ⟨_, rfl, r⟩
  | _, _, i + 1, _, .cons _ rs, h => rps_get (i := i) rs h
theorem rps_get' {G : Hp} : ∀ {vs : List V} {ds : List D} {i : Nat} {d : D}, RpAll K G vs ds → ds[i]? = some d → ∃ v, vs[i]? = some v ∧ Rp K G v d
  | _, _, _, _, .nil, h => by cases h
  | _, _, 0, _, .cons r _, h => by cases h; exact ⟨_, rfl, r⟩
  | _, _, i + 1, _, .cons _ rs, h => rps_get' (i := i) rs h
theorem si_list {tg : Expr} (h : SE K (fE K) X e m) (hK : X.K = K) : SI K X tg e (mItems dLst m) := by
  refine ⟨mo_items h.mono, pi_weak (pi_list h.pe) fun σ H Q ⟨G, ρ, R, q⟩ => ⟨G, ρ, R, h.mono ρ _ _ (fun d ρ1 q v G1 H1 R1 l r => ?_) q⟩⟩
  subst hK
  cases d <;> first | exact q.elim | skip
  cases r with
  | lst s a =>
    refine ⟨_, rfl, ⟨_, .inl (rd_same R1.gh s)⟩, q _ G1 H1 R1 l fun G2 H2 g gh => ?_⟩
    have W := walk_list (K := X.K) (a := ‹Addr›) (xs := ‹List V›)
    have sh := gh
    have s2 : SqL X.K H2 ‹Addr› ‹List V› := .inl (rd_same gh (rd_same g s))
    have ln := rps_len a
    refine ⟨fun i hi => W.goes i H2 (by omega) s2, ln ▸ W.stops H2 s2, fun i x H3 hi y => ?_⟩
    obtain ⟨rfl, hx⟩ := W.yields i H2 x H3 (by omega) s2 y
    obtain ⟨d, hd, rd⟩ := rps_get a hx
    exact ⟨G2, d, gh, .refl, hd, rp_same g rd⟩
theorem si_tup {tg : Expr} (h : SE K (fE K) X e m) (hK : X.K = K) : SI K X tg e (mItems dTup m) := by
  refine ⟨mo_items h.mono, pi_weak (pi_tup h.pe) fun σ H Q ⟨G, ρ, R, q⟩ => ⟨G, ρ, R, h.mono ρ _ _ (fun d ρ1 q v G1 H1 R1 l r => ?_) q⟩⟩
  subst hK
  cases d <;> first | exact q.elim | skip
  obtain ⟨p, xs, rfl, s, a, _⟩ := rp_tup r
  refine ⟨_, rfl, ⟨_, sqT_same R1.gh s⟩, q _ G1 H1 R1 l fun G2 H2 g gh => ?_⟩
  have W := walk_tup (K := X.K) (a := p) (xs := xs)
  have s2 := sqT_same gh (sqT_same g s)
  have ln := rps_len a
  refine ⟨fun i hi => W.goes i H2 (by omega) s2, ln ▸ W.stops H2 s2, fun i x H3 hi y => ?_⟩
  obtain ⟨rfl, hx⟩ := W.yields i H2 x H3 (by omega) s2 y
  obtain ⟨d, hd, rd⟩ := rps_get a hx
  exact ⟨G2, d, gh, .refl, hd, rp_same g rd⟩
/-! for -/
def sForL (mg : MG) (b : MS) (E : Dn) : List D → Cs → Prop
  | [], ρ => E.nx ρ
  | x :: r, ρ => mg x ρ fun ρ1 => b { E with nx := sForL mg b E r, ct := sForL mg b E r, bk := E.nx } ρ1
def sFor (mi : MI) (mg : MG) (b : MS) : MS := fun E ρ => mi ρ fun xs ρ1 => sForL mg b E xs ρ1
theorem mos_forL {mg : MG} {g : TG} {ts : List Nat} (sg : SG K n ts g mg) (hb : MoS ms) {E E' : Dn} (a : ∀ ρ', E.nx ρ' → E'.nx ρ') (b : ∀ d ρ', E.rt d ρ' → E'.rt d ρ') : ∀ (xs : List D) (ρ : Cs), sForL mg ms E xs ρ → sForL mg ms E' xs ρ
  | [], ρ, h => a ρ h
  | x :: r, ρ, h => sg.mono _ _ _ _ (fun ρ1 => hb ρ1 { E with nx := sForL mg ms E r, ct := sForL mg ms E r, bk := E.nx } _ (mos_forL sg hb a b r) b a (mos_forL sg hb a b r)) h
theorem ss_for {tg iter : Expr} {body : List Stmt} {mi : MI} {g : TG} {mg : MG} {ts : List Nat} (hp : PassesOwn (model X.prog X.w) X.A X.env X.xe) (hc : X.calm = true) (hi : SI K X tg iter mi) (hg : PG X tg g) (sg : SG K n ts g mg) (hb : SB K n X body ms)
    (hs : ∀ x, foldedSetIterable iter X.env x = pure x := by intro _; rfl) : SS K n X (.For tg iter body [] pos) (sFor mi mg ms) := by
  refine ⟨fun ρ E E' a b _ _ => hi.mono ρ _ _ fun xs ρ1 => mos_forL sg hb.mono a b xs ρ1, ps_weak (ps_for hp hc hi.pi hg hb.ps hs) fun T σ H ⟨G, ρ, E, R, q, a, b, c, d⟩ => ⟨G, ρ, R, hi.mono ρ _ _ (fun xs ρ1 q J G1 H1 R1 l1 wk => ?_) q⟩⟩
  have l1 := l1.up (n := n)
  refine ⟨fun i k σ' H' => k = xs.length - i ∧ i ≤ xs.length ∧ ∃ G' ρ', Rel K σ' G' H' ρ' ∧ Same G1 G' ∧ Lk n σ G H ρ σ' G' H' ρ' ∧ sForL mg ms E (xs.drop i) ρ', ⟨_, rfl, Nat.zero_le _, G1, ρ1, R1, .refl _, l1, q⟩, ?_⟩
  rintro i k σ2 H2 ⟨rfl, hle, G2, ρ2, R2, g2, l2, q2⟩
  obtain ⟨w1, w2, w3⟩ := wk G2 H2 g2 R2.gh
  by_cases hlt : i < xs.length
  · refine .inr ⟨w1 i hlt, fun σ' H' => ∃ G' ρ', Rel K σ' G' H' ρ' ∧ Same G1 G' ∧ Lk n σ G H ρ σ' G' H' ρ' ∧ sForL mg ms E (xs.drop (i + 1)) ρ', fun σ' H' z => ⟨xs.length - (i + 1), by omega, rfl, hlt, z⟩, fun x H3 y => ?_⟩
    obtain ⟨G3, dx, gh3, st3, hx, rx⟩ := w3 i x H3 hlt y
    have R3 := R2.pure st3 gh3
    have l3 := l2.trans (Lk.pure (n := n) (ρ := ρ2) (σ := σ2) st3)
    have e : xs.drop i = dx :: xs.drop (i + 1) := by
      rw [List.drop_eq_getElem_cons hlt]
      rw [List.getElem?_eq_getElem hlt] at hx
      rw [Option.some.inj hx]
    rw [e] at q2
    refine sg.run σ2 G3 H3 ρ2 x dx _ R3 rx (sg.mono _ _ _ _ (fun ρ4 q4 σ4 R4 l4 _ => ?_) q2)
    have l4 := l3.trans l4
    refine ⟨G3, ρ4, _, R4, q4, ?_, ?_, ?_, ?_⟩
    · exact fun σ5 G5 H5 ρ5 R5 l5 q5 => ⟨G5, ρ5, R5, (g2.trans st3.gg).trans l5.st.gg, l4.trans l5, q5⟩
    · exact fun v d σ5 G5 H5 ρ5 R5 l5 => b v d σ5 G5 H5 ρ5 R5 (l4.trans l5)
    · exact fun σ5 G5 H5 ρ5 R5 l5 => a σ5 G5 H5 ρ5 R5 (l4.trans l5)
    · exact fun σ5 G5 H5 ρ5 R5 l5 q5 => ⟨G5, ρ5, R5, (g2.trans st3.gg).trans l5.st.gg, l4.trans l5, q5⟩
  · have e : i = xs.length := by omega
    subst e
    rw [List.drop_length] at q2
    exact .inl ⟨w2, a σ2 G2 H2 ρ2 R2 l2 q2⟩
end
end Dl

set_option Elab.async false
set_option linter.all false
set_option maxRecDepth 100000
set_option maxHeartbeats 4000000
namespace Dl
open PySem PySem.Spec PyProof.Rows L2
/-! ### comprehensions -/
def wipeC (ρ : Cs) : List Nat → Cs
  | [] => ρ
  | v :: vs => (wipeC ρ vs).set v .un
section
variable {K : PySem.W.Frag}
theorem Rel.un {σ : L2.St} {G H : Hp} {ρ : Cs} {i : Nat} (R : Rel K σ G H ρ) : Rel K (σ.set i none) G H (ρ.set i .un) := by
  refine ⟨R.gh, by rw [List.length_set, List.length_set]; exact R.len, fun j c q => ?_, fun j c q => ?_, fun j l a c c' q q' h h' => ?_⟩
  · rcases set_get q with ⟨_, _, z⟩ | ⟨ne, z⟩
    · cases z
    · rw [set_ne ne]; exact R.fro j c z
  · rcases set_get q with ⟨_, _, z⟩ | ⟨ne, z⟩
    · cases z
    · rw [set_ne ne]; exact R.own j c z
  · rcases set_get q with ⟨_, _, z⟩ | ⟨ne, z⟩
    · cases z
    · rcases set_get q' with ⟨_, _, z'⟩ | ⟨ne', z'⟩
      · cases z'
      · rw [set_ne ne] at h
        rw [set_ne ne'] at h'
        exact R.apart j l a c c' z z' h h'
theorem Rel.wipe {σ : L2.St} {G H : Hp} {ρ : Cs} (R : Rel K σ G H ρ) : ∀ vs : List Nat, Rel K (wipe σ vs) G H (wipeC ρ vs)
  | [] => R
  | v :: vs => (R.wipe vs).un
theorem ow_un {σ : L2.St} {ρ : Cs} {i : Nat} {p : Addr} (w : Ow (σ.set i none) (ρ.set i .un) p) : Ow σ ρ p := by
  obtain ⟨j, d, h1, h2⟩ := w
  rcases set_get h1 with ⟨_, _, z⟩ | ⟨ne, z⟩
  · cases z
  · rw [set_ne ne] at h2
    exact ⟨j, d, z, h2⟩
theorem ow_wipe {σ : L2.St} {ρ : Cs} {p : Addr} : ∀ {vs : List Nat}, Ow (wipe σ vs) (wipeC ρ vs) p → Ow σ ρ p
  | [], w => w
  | _ :: vs, w => ow_wipe (vs := vs) (ow_un w)
theorem Lk.wipe {σ0 σ : L2.St} {G0 H0 G H : Hp} {ρ0 ρ : Cs} (l : Lk 0 σ0 G0 H0 ρ0 σ G H ρ) (vs : List Nat) : Lk 0 σ0 G0 H0 ρ0 (wipe σ vs) G H (wipeC ρ vs) :=
  ⟨l.st, fun p w => l.sb p (ow_wipe w), fun _ h => absurd h (Nat.not_lt_zero _)⟩
/-- back from the block -/
theorem Rel.unwipe {σ : L2.St} {G H : Hp} {ρ : Cs} {vs : List Nat} (R : Rel K (L2.wipe σ vs) G H ρ) : Rel K σ G H ρ ∧ ∀ p, Ow σ ρ p → Ow (L2.wipe σ vs) ρ p := by
  have back : ∀ (i : Nat) (v : V), (L2.wipe σ vs)[i]? = some (some v) → σ[i]? = some (some v) := fun i v h => (wipe_some h).1
  refine ⟨⟨R.gh, by rw [← R.len, wipe_length], fun i d e => ?_, fun i d e => ?_, fun i j p d e h h' q q' => ?_⟩, fun p ⟨i, d, h1, h2⟩ => ?_⟩
  · obtain ⟨v, h, r⟩ := R.fro i d e
    exact ⟨v, back i v h, r⟩
  · obtain ⟨p, o, h, r⟩ := R.own i d e
    exact ⟨p, o, back i _ h, r⟩
  · obtain ⟨p1, o1, z1, _⟩ := R.own i d h
    obtain ⟨p2, o2, z2, _⟩ := R.own j e h'
    have e1 := back i _ z1
    have e2 := back j _ z2
    rw [q] at e1
    rw [q'] at e2
    cases e1
    cases e2
    exact R.apart i j p d e h h' z1 z2
  · obtain ⟨p1, o1, z1, _⟩ := R.own i d h1
    have e1 := back i _ z1
    rw [h2] at e1
    cases e1
    exact ⟨i, d, h1, z1⟩
theorem Rel.poke {σ : L2.St} {G H : Hp} {ρ : Cs} {p : Addr} {o : HO} (R : Rel K σ G H ρ) (gp : G p = none) (nw : ¬ Ow σ ρ p) : Rel K σ G (upd H p o) ρ := by
  refine ⟨fun b u e => (upd_ne (ne_of_none e gp)).trans (R.gh b u e), R.len, R.fro, fun i d e => ?_, R.apart⟩
  obtain ⟨q, u, h, hq, r⟩ := R.own i d e
  exact ⟨q, u, h, (upd_ne (fun z => nw (by subst z; exact ⟨i, d, e, h⟩))).trans hq, r⟩
theorem Lk.poke {n : Nat} {σ0 σ : L2.St} {G0 H0 G H : Hp} {ρ0 ρ : Cs} {p : Addr} {o : HO} (l : Lk n σ0 G0 H0 ρ0 σ G H ρ) (h0 : H0 p = none) : Lk n σ0 G0 H0 ρ0 σ G (upd H p o) ρ :=
  ⟨⟨l.st.gg, fun a u m e => (upd_ne (ne_of_none e h0)).trans (l.st.hh a u m e), l.st.fr, fun a e => by
    by_cases q : a = p
    · subst q; exact h0
    · rw [upd_ne q] at e; exact l.st.dom a e⟩, l.sb, l.pn⟩
theorem wipe_get {σ : L2.St} {j : Nat} : ∀ {vs : List Nat}, j ∉ vs → (wipe σ vs)[j]? = σ[j]?
  | [], _ => rfl
  | v :: vs, h => by
    unfold wipe
    rw [set_ne (fun z => h (by rw [z]; exact List.mem_cons_self))]
    exact wipe_get fun z => h (List.mem_cons_of_mem _ z)
theorem wipe_un {σ : L2.St} {j : Nat} : ∀ {vs : List Nat}, j ∈ vs → j < σ.length → (wipe σ vs)[j]? = some none
  | v :: vs, h, hl => by
    unfold wipe
    by_cases e : j = v
    · subst e
      exact List.getElem?_set_self (by rw [wipe_length]; exact hl)
    · rw [set_ne e]
      exact wipe_un ((List.mem_cons.mp h).resolve_left e) hl
theorem Ch.wipe {ts vs : List Nat} {σ σ' : L2.St} (c : Ch ts σ σ') (h : ∀ t ∈ ts, t ∈ vs) : L2.wipe σ' vs = L2.wipe σ vs := by
  apply List.ext_getElem?
  intro j
  by_cases hj : j ∈ vs
  · by_cases hl : j < σ.length
    · rw [wipe_un hj hl, wipe_un hj (by rw [c.1]; exact hl)]
    · rw [List.getElem?_eq_none (by rw [wipe_length, c.1]; omega), List.getElem?_eq_none (by rw [wipe_length]; omega)]
  · rw [wipe_get hj, wipe_get hj]
    exact c.2 j fun z => hj (h j z)
theorem wipe_wipe {σ : L2.St} {vs : List Nat} : wipe (wipe σ vs) vs = wipe σ vs :=
  Ch.wipe (ts := vs) ⟨wipe_length σ vs, fun j h => wipe_get h⟩ fun _ h => h
def mYes : MT := fun ρ k => k true ρ
structure STs (K : PySem.W.Frag) (X : Cx) (ifs : List Expr) (m : MT) : Prop where
  mono : Mo m
  pts : PTs X ifs (tT K m)
theorem pts_weak {X : Cx} {ifs : List Expr} {t t' : TT} (h : PTs X ifs t) (w : ∀ σ H Q, t' σ H Q → t σ H Q) : PTs X ifs t' := ⟨fun pins s σ H Q I q => h.run pins s σ H Q I (w σ H Q q)⟩
theorem sts_nil {X : Cx} : STs K X [] mYes := ⟨fun _ _ _ w => w _ _, pts_weak pts_nil fun σ H Q ⟨G, ρ, R, q⟩ => q G H R .refl⟩
theorem sts_one {X : Cx} {c : Expr} {m : MT} (h : ST K X c m) : STs K X [c] m := ⟨h.mono, pts_one h.pt⟩
def mLcL (mg : MG) (mt : MT) (me : ME) (vs : List Nat) (k : List D → Cs → Prop) : List D → List D → Cs → Prop
  | [], acc, ρ => k acc ρ
  | x :: r, acc, ρ => mg x ρ fun ρ1 => mt ρ1 fun b ρ2 => if b = true then me ρ2 fun d ρ3 => mLcL mg mt me vs k r (acc ++ [d]) (wipeC ρ3 vs) else mLcL mg mt me vs k r acc (wipeC ρ2 vs)
def mLc (mi : MI) (mg : MG) (mt : MT) (me : ME) (vs : List Nat) : ME := fun ρ k => mi ρ fun xs ρ1 => xs.length ≤ sizeLine ∧ mLcL mg mt me vs (fun ds ρ2 => k (.list ds) ρ2) xs [] (wipeC ρ1 vs)
theorem mo_lcL {mg : MG} {mt : MT} {me : ME} {vs : List Nat} (hg : ∀ d ρ (k k' : Cs → Prop), (∀ ρ', k ρ' → k' ρ') → mg d ρ k → mg d ρ k') (ht : Mo mt) (he : Mo me) {k k' : List D → Cs → Prop} (w : ∀ d ρ', k d ρ' → k' d ρ') : ∀ (xs acc : List D) (ρ : Cs), mLcL mg mt me vs k xs acc ρ → mLcL mg mt me vs k' xs acc ρ
  | [], acc, ρ, h => w _ _ h
  | x :: r, acc, ρ, h => hg _ _ _ _ (fun ρ1 => ht ρ1 _ _ fun b ρ2 q => by
    cases b
    · exact mo_lcL hg ht he w r acc _ q
    · exact he ρ2 _ _ (fun d ρ3 => mo_lcL hg ht he w r _ _) q) h
variable {X : Cx}
/-- the reading -/
theorem t_lc {wi : MI} {g : TG} {mg : MG} {mt : MT} {me : ME} {vs ts : List Nat} (hi : Mo wi) (sg : SG K 0 ts g mg) (hts : ∀ t ∈ ts, t ∈ vs) (ht : Mo mt) (he : Mo me) (σ : L2.St) (H : Hp) (Q : VK) (h : tE K (fF K) (mLc wi mg mt me vs) σ H Q) :
    tLc (tI K wi) g (tT K mt) (tE K (fE K) me) vs σ H Q := by
  obtain ⟨G, ρ, R, h⟩ := h
  refine ⟨G, ρ, R, hi ρ _ _ (fun xs ρ1 q J G1 H1 R1 l1 wk L hL => ?_) h⟩
  obtain ⟨hsz, q⟩ := q
  have nG : G1 L = none := R1.gh.free hL
  have n0 : H L = none := l1.st.dom L hL
  have nw : ¬ Ow (wipe σ vs) (wipeC ρ1 vs) L := fun w => (R1.wipe vs).old w hL
  refine ⟨fun i k H' => k = xs.length - i ∧ i ≤ xs.length ∧ ∃ G' ρ' acc vacc, Rel K (wipe σ vs) G' H' (wipeC ρ' vs) ∧ Same G1 G' ∧ Lk 0 σ G H ρ (wipe σ vs) G' H' (wipeC ρ' vs) ∧ H' L = some (.lst vacc) ∧ G' L = none ∧ ¬ Ow (wipe σ vs) (wipeC ρ' vs) L ∧ RpAll K G' vacc acc ∧ acc.length ≤ i ∧
    mLcL mg mt me vs (fun ds ρ2 => ∀ v G' H', Rel K σ G' H' ρ2 → Lk 0 σ G H ρ σ G' H' ρ2 → fF K H σ ρ2 G' H' v (.list ds) → Q v H') (xs.drop i) acc (wipeC ρ' vs),
    ⟨_, rfl, Nat.zero_le _, G1, ρ1, [], [], (R1.wipe vs).poke nG nw, .refl _, (l1.wipe vs).poke n0, upd_same, nG, nw, .nil, Nat.zero_le _, q⟩, ?_⟩
  rintro i k H2 ⟨rfl, hle, G2, ρ2, acc, vacc, R2, g2, l2, hL2, nG2, nw2, ra, hacc, q2⟩
  obtain ⟨w1, w2, w3⟩ := wk G2 H2 g2 R2.gh
  by_cases hlt : i < xs.length
  · refine .inr ⟨w1 i hlt, fun H' => ∃ G' ρ' acc vacc, Rel K (wipe σ vs) G' H' (wipeC ρ' vs) ∧ Same G1 G' ∧ Lk 0 σ G H ρ (wipe σ vs) G' H' (wipeC ρ' vs) ∧ H' L = some (.lst vacc) ∧ G' L = none ∧ ¬ Ow (wipe σ vs) (wipeC ρ' vs) L ∧ RpAll K G' vacc acc ∧ acc.length ≤ i + 1 ∧
      mLcL mg mt me vs (fun ds ρ2 => ∀ v G' H', Rel K σ G' H' ρ2 → Lk 0 σ G H ρ σ G' H' ρ2 → fF K H σ ρ2 G' H' v (.list ds) → Q v H') (xs.drop (i + 1)) acc (wipeC ρ' vs), fun H' z => ⟨xs.length - (i + 1), by omega, rfl, hlt, z⟩, fun x H3 y => ?_⟩
    obtain ⟨G3, dx, gh3, st3, hx, rx⟩ := w3 i x H3 hlt y
    have R3 := R2.pure st3 gh3
    have l3 := l2.trans (Lk.pure (n := 0) (ρ := wipeC ρ2 vs) (σ := wipe σ vs) st3)
    have hL3 : H3 L = some (.lst vacc) := st3.hh L _ (fun z => z) hL2
    have nG3 : G3 L = none := st3.fr L _ (fun z => z) hL2 nG2 rfl
    have e : xs.drop i = dx :: xs.drop (i + 1) := by
      rw [List.drop_eq_getElem_cons hlt]
      rw [List.getElem?_eq_getElem hlt] at hx
      rw [Option.some.inj hx]
    rw [e] at q2
    refine sg.run (wipe σ vs) G3 H3 (wipeC ρ2 vs) x dx _ R3 rx (sg.mono _ _ _ _ (fun ρ4 q4 σ4 R4 l4 c4 => ?_) q2)
    have ew : wipe σ4 vs = wipe σ vs := (c4.wipe hts).trans wipe_wipe
    refine ⟨ew, G3, ρ4, R4, ht ρ4 _ _ (fun b ρ5 q5 G5 H5 R5 l5 => ?_) q4⟩
    -- L is no one's
    have own4 : ¬ Ow σ4 ρ4 L := fun w => by
      rcases l4.sb L w with z | z
      · exact nw2 z
      · rw [hL3] at z; cases z
    have hL5 : H5 L = some (.lst vacc) := l5.st.hh L _ own4 hL3
    have nG5 : G5 L = none := l5.st.fr L _ own4 hL3 nG3 rfl
    have l05 := l3.trans (l4.trans l5)
    cases b
    · have z : Lk 0 (wipe σ vs) G3 H3 (wipeC ρ2 vs) (wipe σ4 vs) G5 H5 (wipeC ρ5 vs) := (l4.trans l5).wipe vs
      have RR := R5.wipe vs
      have LL := l05.wipe vs
      rw [ew] at RR LL z
      refine ⟨G5, ρ5, acc, vacc, RR, (g2.trans st3.gg).trans l5.st.gg, LL, hL5, nG5, fun w => ?_, rps_same (st3.gg.trans l5.st.gg) ra, by omega, q5⟩
      rcases z.sb L w with z | z
      · exact nw2 z
      · rw [hL3] at z; cases z
    · refine ⟨G5, ρ5, R5, he ρ5 _ _ (fun d ρ6 q6 v G6 H6 R6 l6 rv => ?_) q5⟩
      have own5 : ¬ Ow σ4 ρ5 L := fun w => by
        rcases l5.sb L w with z | z
        · exact own4 z
        · rw [hL3] at z; cases z
      have hL6 : H6 L = some (.lst vacc) := l6.st.hh L _ own5 hL5
      have nG6 : G6 L = none := l6.st.fr L _ own5 hL5 nG5 rfl
      have la := rps_len ra
      refine ⟨vacc, hL6, by omega, ?_⟩
      have z : Lk 0 (wipe σ vs) G3 H3 (wipeC ρ2 vs) (wipe σ4 vs) G6 H6 (wipeC ρ6 vs) := ((l4.trans l5).trans l6).wipe vs
      have RR := R6.wipe vs
      have LL := (l05.trans l6).wipe vs
      rw [ew] at RR LL z
      have nw6 : ¬ Ow (wipe σ vs) (wipeC ρ6 vs) L := fun w => by
        rcases z.sb L w with z | z
        · exact nw2 z
        · rw [hL3] at z; cases z
      have app : ∀ {vs : List V} {ds : List D} {v : V} {d : D}, RpAll K G6 vs ds → Rp K G6 v d → RpAll K G6 (vs ++ [v]) (ds ++ [d]) := by
        intro vs
        induction vs with
        | nil =>
          intro ds v d a b
          cases a
          exact .cons b .nil
        | cons x r ih =>
          intro ds v d a b
          cases a with
          | cons a1 a2 => exact .cons a1 (ih a2 b)
      refine ⟨G6, ρ6, acc ++ [d], vacc ++ [v], RR.poke nG6 nw6, ((g2.trans st3.gg).trans l5.st.gg).trans l6.st.gg, LL.poke n0, upd_same, nG6, nw6, app (rps_same ((st3.gg.trans l5.st.gg).trans l6.st.gg) ra) rv, by simp; omega, q6⟩
  · have e : i = xs.length := by omega
    subst e
    rw [List.drop_length] at q2
    obtain ⟨Rf, of⟩ := R2.unwipe
    exact .inl ⟨w2, q2 _ G2 H2 Rf ⟨l2.st, fun p w => l2.sb p (of p w), fun _ h => absurd h (Nat.not_lt_zero _)⟩ ⟨L, _, rfl, n0, fun w => nw2 (of L w), hL2, nG2, .lst ra⟩⟩
end
end Dl

set_option Elab.async false
set_option linter.all false
set_option maxRecDepth 100000
set_option maxHeartbeats 4000000
namespace Dl
open PySem PySem.Spec PyProof.Rows L2 Br
section
variable {K : PySem.W.Frag} {X : Cx}
/-- [elt for target in iter if ..] -/
theorem se_lc {elt tg iter : Expr} {ifs : List Expr} {scope : Scope} {own : List (Str × Nat)} {pos : Pos} {wi : MI} {g : TG} {mg : MG} {mt : MT} {me : ME} {ts : List Nat} (hc : X.calm = true) (hN : X.N.Nodup) (hi : SI K X tg iter wi) (ok : BlkOk X.N X.env.scope scope own)
    (hg : ∀ (s : Shared) (H : Hp) (C : Addr) (cl : List (Str × Addr)) (fp : List Addr), PG (X.blk s H scope (compEnvC scope cl C X.env) fp) tg g) (sg : SG K 0 ts g mg) (hts : ∀ t ∈ ts, t ∈ own.map (·.2))
    (ht : ∀ (s : Shared) (H : Hp) (C : Addr) (cl : List (Str × Addr)) (fp : List Addr), STs K (X.blk s H scope (compEnvC scope cl C X.env) fp) ifs mt)
    (he : ∀ (s : Shared) (H : Hp) (C : Addr) (cl : List (Str × Addr)) (fp : List Addr), SE K (fE K) (X.blk s H scope (compEnvC scope cl C X.env) fp) elt me) (hs : ∀ x, foldedSetIterable iter X.env x = pure x := by intro _; rfl) :
    SE K (fF K) X (.ListComp elt [⟨tg, iter, ifs, 0⟩] scope pos) (mLc wi mg mt me (own.map (·.2))) :=
  have mt' := (ht X.s_0 X.H_0 0 [] []).mono
  have me' := (he X.s_0 X.H_0 0 [] []).mono
  ⟨fun ρ k k' w => hi.mono ρ _ _ fun xs ρ1 q => ⟨q.1, mo_lcL sg.mono mt' me' (fun ds ρ2 => w _ ρ2) xs [] _ q.2⟩,
    pe_weak (pe_lc hc hN hi.pi ok hg (fun s H C cl fp => (ht s H C cl fp).pts) (fun s H C cl fp => (he s H C cl fp).pe) hs) (t_lc hi.mono sg hts mt' me')⟩
/-- name = [..] on one line -/
theorem ss_setLc {n i : Nat} {y : Str} {py : Pos} {elt tg iter : Expr} {ifs : List Expr} {scope : Scope} {own : List (Str × Nat)} {pos spos : Pos} {wi : MI} {g : TG} {mg : MG} {mt : MT} {me : ME} {ts : List Nat} (hn : n ≤ i) (hc : X.calm = true) (hN : X.N.Nodup) (hy : X.N[i]? = some y) (hyl : X.env.scope.names.lookup y = some .local)
    (hsw : swapsWith (.ListComp elt [⟨tg, iter, ifs, 0⟩] scope pos) (some (.Name y py)) spos.line X.env = pure true) (hi : SI K X tg iter wi) (ok : BlkOk X.N X.env.scope scope own)
    (hg : ∀ (s : Shared) (H : Hp) (C : Addr) (cl : List (Str × Addr)) (fp : List Addr), PG (X.blk s H scope (compEnvC scope cl C X.env) fp) tg g) (sg : SG K 0 ts g mg) (hts : ∀ t ∈ ts, t ∈ own.map (·.2))
    (ht : ∀ (s : Shared) (H : Hp) (C : Addr) (cl : List (Str × Addr)) (fp : List Addr), STs K (X.blk s H scope (compEnvC scope cl C X.env) fp) ifs mt)
    (he : ∀ (s : Shared) (H : Hp) (C : Addr) (cl : List (Str × Addr)) (fp : List Addr), SE K (fE K) (X.blk s H scope (compEnvC scope cl C X.env) fp) elt me) (hs : ∀ x, foldedSetIterable iter X.env x = pure x := by intro _; rfl) :
    SS K n X (.Assign [.Name y py] (.ListComp elt [⟨tg, iter, ifs, 0⟩] scope pos) spos) (sSetO i (mLc wi mg mt me (own.map (·.2)))) := by
  have mt' := (ht X.s_0 X.H_0 0 [] []).mono
  have me' := (he X.s_0 X.H_0 0 [] []).mono
  have mo : Mo (mLc wi mg mt me (own.map (·.2))) := fun ρ k k' w => hi.mono ρ _ _ fun xs ρ1 q => ⟨q.1, mo_lcL sg.mono mt' me' (fun ds ρ2 => w _ ρ2) xs [] _ q.2⟩
  refine ⟨fun ρ E E' a _ _ _ => mo ρ _ _ fun _ ρ1 => a _, ps_weak (ps_setLc hc hN hy hyl hsw hi.pi ok hg (fun s H C cl fp => (ht s H C cl fp).pts) (fun s H C cl fp => (he s H C cl fp).pe) hs) fun T σ H ⟨G, ρ, E, R, q, a, _⟩ => ?_⟩
  refine t_lc hi.mono sg hts mt' me' σ H _ ⟨G, ρ, R, mo ρ _ _ (fun d ρ1 q v G1 H1 R1 l r => ?_) q⟩
  obtain ⟨p, o, rfl, h0, nw, hp, gp, ob⟩ := r
  exact a _ G1 H1 _ (R1.setO hp gp nw ob) (l.up.setO R1.len hn h0) q
/-- an owned local is as good as a given one, once it is given away: name = [..] for a name that is only read -/
def mFro (i : Nat) (m : MS) : MS := fun E ρ => m { E with nx := fun ρ1 => mFrz i ρ1 fun _ ρ2 => E.nx ρ2 } ρ
theorem mo_frz {i : Nat} : Mo (mFrz i) := by
  intro ρ k k' h
  unfold mFrz
  split
  · exact h _ _
  · exact h _ _
  · exact id
/-- what a given-away slot leaves -/
theorem frz_run {n i : Nat} {σ : L2.St} {G H : Hp} {ρ : Cs} {k : D → Cs → Prop} (R : Rel K σ G H ρ) (h : mFrz i ρ k) : ∃ d G' ρ', Rel K σ G' H ρ' ∧ Lk n σ G H ρ σ G' H ρ' ∧ k d ρ' := by
  unfold mFrz at h
  split at h
  · rename_i d e
    obtain ⟨p, o, hv, hp, gp, r⟩ := R.own i d e
    have sg := same_upd (o := o) gp
    refine ⟨d, upd G p o, _, ⟨same_put R.gh hp, by rw [List.length_set]; exact R.len, fun j c q => ?_, fun j c q => ?_, fun j l a c c' q q' => ?_⟩, ⟨⟨sg, fun _ _ _ h => h, fun a u n e1 g t => ?_, fun _ h => h⟩, (fun q w => ?_), fun _ _ => rfl⟩, h⟩
    · rcases set_get q with ⟨rfl, _, z⟩ | ⟨_, z⟩
      · cases z
        exact ⟨_, hv, ob_rp (ob_same sg r) upd_same⟩
      · obtain ⟨v, h1, h2⟩ := R.fro j c z
        exact ⟨v, h1, rp_same sg h2⟩
    · rcases set_get q with ⟨rfl, _, z⟩ | ⟨ne, z⟩
      · cases z
      · obtain ⟨p', o', h1, h2, h3, h4⟩ := R.own j c z
        refine ⟨p', o', h1, h2, ?_, ob_same sg h4⟩
        rw [upd_ne (fun w => by subst w; exact ne (R.apart j i p' c d z e h1 hv))]
        exact h3
    · rcases set_get q with ⟨_, _, z⟩ | ⟨_, z⟩
      · cases z
      · rcases set_get q' with ⟨_, _, z'⟩ | ⟨_, z'⟩
        · cases z'
        · exact R.apart j l a c c' z z'
    · rw [upd_ne (fun w => by subst w; exact n ⟨i, d, e, hv⟩)]
      exact g
    · obtain ⟨j, c, q1, q2⟩ := w
      rcases set_get q1 with ⟨_, _, z⟩ | ⟨_, z⟩
      · cases z
      · exact .inl ⟨j, c, z, q2⟩
  · rename_i d e
    exact ⟨d, G, ρ, R, .refl, h⟩
  · exact h.elim
theorem SS.fro {n i : Nat} {st : Stmt} {m : MS} (h : SS K n X st m) : SS K n X st (mFro i m) := by
  refine ⟨fun ρ E E' a b c d => h.mono ρ _ _ (fun ρ1 => mo_frz ρ1 _ _ fun _ ρ2 => a ρ2) b c d, ps_weak h.ps fun T σ H ⟨G, ρ, E, R, q, a, b, c, d⟩ => ⟨G, ρ, _, R, q, fun σ1 G1 H1 ρ1 R1 l1 q1 => ?_, b, c, d⟩⟩
  obtain ⟨_, G2, ρ2, R2, l2, q2⟩ := frz_run (n := n) R1 q1
  exact a σ1 G2 H1 ρ2 R2 (l1.trans l2) q2
/-! ### a def, by data -/
abbrev Fs := List Cell → (D → List Cell → Prop) → Prop
def spD (K : PySem.W.Frag) (np n : Nat) (F : Fs) : Sp := fun vs H Q _ => vs.length = np ∧ ∃ G cs, Rel K (vs.map some) G H cs ∧
  F cs fun d cs' => ∀ v G' H', Same G' H' → Rel K ((vs.take n).map some) G' H' cs' → Stp (Ow (vs.map some) cs) G H G' H' → Rp K G' v d → Q v H'
theorem Rel.more {σ : L2.St} {G H : Hp} {ρ : Cs} (R : Rel K σ G H ρ) (k : Nat) : Rel K (σ ++ List.replicate k none) G H (ρ ++ List.replicate k .un) := by
  have one : ∀ {i : Nat} {c : Cell}, c ≠ .un → (ρ ++ List.replicate k .un)[i]? = some c → ρ[i]? = some c ∧ (σ ++ List.replicate k none)[i]? = σ[i]? := by
    intro i c hc h
    by_cases hi : i < ρ.length
    · rw [List.getElem?_append_left hi] at h
      exact ⟨h, List.getElem?_append_left (by rw [R.len]; exact hi)⟩
    · rw [List.getElem?_append_right (by omega)] at h
      rw [List.getElem?_replicate] at h
      split at h
      · cases h; exact (hc rfl).elim
      · cases h
  refine ⟨R.gh, by rw [List.length_append, List.length_append, List.length_replicate, List.length_replicate, R.len], fun i d e => ?_, fun i d e => ?_, fun i j p d e h h' q q' => ?_⟩
  · obtain ⟨a, b⟩ := one (c := .fro d) (by intro z; cases z) e
    rw [b]; exact R.fro i d a
  · obtain ⟨a, b⟩ := one (c := .own d) (by intro z; cases z) e
    rw [b]; exact R.own i d a
  · obtain ⟨a, b⟩ := one (c := .own d) (by intro z; cases z) h
    obtain ⟨a', b'⟩ := one (c := .own e) (by intro z; cases z) h'
    rw [b] at q
    rw [b'] at q'
    exact R.apart i j p d e a a' q q'
theorem Rel.cut {σ : L2.St} {G H : Hp} {ρ : Cs} {n : Nat} {vs : List V} (R : Rel K σ G H ρ) (hn : n ≤ vs.length) (hl : n ≤ σ.length) (h : ∀ i, i < n → σ[i]? = (vs.map some)[i]?) : Rel K ((vs.take n).map some) G H (ρ.take n) := by
  have one : ∀ {i : Nat} {c : Cell}, (ρ.take n)[i]? = some c → ρ[i]? = some c ∧ ((vs.take n).map some)[i]? = σ[i]? := by
    intro i c e
    by_cases hi : i < n
    · rw [List.getElem?_take_of_lt hi] at e
      refine ⟨e, ?_⟩
      rw [h i hi, List.map_take, List.getElem?_take_of_lt hi]
    · rw [List.getElem?_take_eq_none (by omega)] at e
      cases e
  refine ⟨R.gh, by rw [List.length_map, List.length_take, List.length_take, ← R.len]; omega, fun i d e => ?_, fun i d e => ?_, fun i j p d e h h' q q' => ?_⟩
  · obtain ⟨a, b⟩ := one e
    rw [b]; exact R.fro i d a
  · obtain ⟨a, b⟩ := one e
    rw [b]; exact R.own i d a
  · obtain ⟨a, b⟩ := one h
    obtain ⟨a', b'⟩ := one h'
    rw [b] at q
    rw [b'] at q'
    exact R.apart i j p d e a a' q q'
end
section
variable {P : Program} {w : World} {K : PySem.W.Frag} {mg : Str → Option Value} {base : Heap} {k : Nat} {f : Addr} {fd : FuncData} {ps : List Str}
theorem fn_ok {x qual : Str} {st : Stmt} {N : List Str} {n : Nat} {F : Fs} (Fu : Fun K x qual st f fd) (S : FnScope N ps (defScope st)) (hn : n ≤ ps.length)
    (body : ∀ (cdv : Value) (Ar : Around) (out : List PySem.Env) (s0 : Shared) (H : Hp) (E : XK), Bare Ar → Room k (Ar.deeper (envOfC qual (defScope st) s0.heap.objs.size f cdv)) →
      ∃ ms, SB K n (cxOf CX0 P w K mg base N qual (defScope st) f cdv Ar out s0 H E).nox (defBody st) ms ∧
        ∀ cs k, cs.length = ps.length → F cs k → ms { nx := fun ρ' => k .none (ρ'.take n), rt := fun d ρ' => k d (ρ'.take n) } (cs ++ List.replicate (N.length - ps.length) .un)) :
    FnG P w K mg base CX0 (k + 1) f fd ps (spD K ps.length n F) := by
  refine okG Fu S (fun vs H Q E h => h.1) fun cdv Ar out s0 H vs Q E hG hr hsp => ?_
  obtain ⟨ms, sb, hF⟩ := body cdv Ar out s0 H E hG hr
  obtain ⟨hl, G, cs, R, h⟩ := hsp
  have hcl : cs.length = ps.length := by rw [← R.len, List.length_map, hl]
  refine ⟨_, sb.ps, ?_⟩
  have R0 := R.more (N.length - ps.length)
  have e0 : vs.map some ++ List.replicate (N.length - ps.length) none = L2.start N vs := by unfold L2.start; rw [hl]
  rw [e0] at R0
  have st0 : ∀ i, i < n → (L2.start N vs)[i]? = (vs.map some)[i]? := fun i hi => by
    unfold L2.start
    rw [List.getElem?_append_left (by rw [List.length_map]; omega)]
  have ow0 : ∀ p, Ow (L2.start N vs) (cs ++ List.replicate (N.length - ps.length) .un) p → Ow (vs.map some) cs p := by
    rintro p ⟨i, d, h1, h2⟩
    by_cases hi : i < cs.length
    · rw [List.getElem?_append_left hi] at h1
      unfold L2.start at h2
      rw [List.getElem?_append_left (by rw [List.length_map]; omega)] at h2
      exact ⟨i, d, h1, h2⟩
    · rw [List.getElem?_append_right (by omega), List.getElem?_replicate] at h1
      split at h1 <;> cases h1
  have fin : ∀ v d σ' G' H' ρ', Rel K σ' G' H' ρ' → Lk n (L2.start N vs) G H (cs ++ List.replicate (N.length - ps.length) .un) σ' G' H' ρ' → Rp K G' v d →
      (∀ v G' H', Same G' H' → Rel K ((vs.take n).map some) G' H' (ρ'.take n) → Stp (Ow (vs.map some) cs) G H G' H' → Rp K G' v d → Q v H') → Q v H' := fun v d σ' G' H' ρ' R' l r q => by
    have hs : n ≤ σ'.length := by
      by_cases z : n = 0
      · omega
      · have e := (l.pn (n - 1) (by omega)).trans (st0 (n - 1) (by omega))
        have hv : n - 1 < vs.length := by omega
        rw [List.getElem?_map, List.getElem?_eq_getElem hv] at e
        have := (List.getElem?_eq_some_iff.mp e).1
        omega
    exact q v G' H' R'.gh (R'.cut (by omega) hs fun i hi => (l.pn i hi).trans (st0 i hi)) (l.st.weak ow0) r
  exact ⟨G, _, _, R0, hF cs _ hcl h, fun σ' G' H' ρ' R' l q => fin .non .none σ' G' H' ρ' R' l .non q, fun v d σ' G' H' ρ' R' l r q => fin v d σ' G' H' ρ' R' l r q, fun _ _ _ _ _ _ z => z.elim, fun _ _ _ _ _ _ z => z.elim⟩
end
end Dl

set_option Elab.async false
set_option linter.all false
set_option maxRecDepth 100000
set_option maxHeartbeats 4000000
namespace Dl
open PySem PySem.Spec PyProof.Rows L2 Br
/-! ### calls: an argument is data, or an owned one by its slot -/
abbrev Ar := Nat ⊕ D
abbrev MR := Cs → (List Ar → Cs → Prop) → Prop
inductive ArR (K : PySem.W.Frag) (σ : L2.St) (G : Hp) : List V → List Ar → Prop
  | nil : ArR K σ G [] []
  | own {v : V} {j : Nat} {vs : List V} {as : List Ar} : σ[j]? = some (some v) → ArR K σ G vs as → ArR K σ G (v :: vs) (.inl j :: as)
  | val {v : V} {d : D} {vs : List V} {as : List Ar} : Rp K G v d → ArR K σ G vs as → ArR K σ G (v :: vs) (.inr d :: as)
def tR (K : PySem.W.Frag) (m : MR) : TA := fun σ H Q => ∃ G ρ, Rel K σ G H ρ ∧ m ρ fun as ρ' => ∀ vs G' H', Rel K σ G' H' ρ' → Lk 0 σ G H ρ σ G' H' ρ' → ArR K σ G' vs as → Q vs H'
structure SR (K : PySem.W.Frag) (X : Cx) (es : List Expr) (m : MR) : Prop where
  mono : Mo m
  pa : PA X es (tR K m)
def rNil : MR := fun ρ k => k [] ρ
def rCons (m : ME) (r : MR) : MR := fun ρ k => m ρ fun d ρ1 => r ρ1 fun ds ρ2 => k (.inr d :: ds) ρ2
def rOwn (j : Nat) (r : MR) : MR := fun ρ k => mOwn j ρ fun _ _ => r ρ fun ds ρ2 => k (.inl j :: ds) ρ2
section
variable {K : PySem.W.Frag} {X : Cx} {a : Expr} {es : List Expr} {m : ME} {mr : MR}
theorem ar_same {σ : L2.St} {G G' : Hp} (e : Same G G') : ∀ {vs : List V} {as : List Ar}, ArR K σ G vs as → ArR K σ G' vs as
  | _, _, .nil => .nil
  | _, _, .own h r => .own h (ar_same e r)
  | _, _, .val h r => .val (rp_same e h) (ar_same e r)
theorem sr_nil : SR K X [] rNil := ⟨fun ρ k k' w => w _ _, pa_weak pa_nil fun σ H Q ⟨G, ρ, R, q⟩ => q [] G H R .refl .nil⟩
theorem sr_cons (h : SE K (fE K) X a m) (g : SR K X es mr) (hs : starEach (a :: es) X.env = (false, eval a X.env) :: starEach es X.env := by rfl) : SR K X (a :: es) (rCons m mr) :=
  ⟨fun ρ k k' w => h.mono ρ _ _ fun d ρ1 => g.mono ρ1 _ _ fun ds ρ2 => w _ _, pa_weak (pa_cons h.pe g.pa hs) fun σ H Q ⟨G, ρ, R, q⟩ =>
    ⟨G, ρ, R, h.mono ρ _ _ (fun d ρ1 q v G1 H1 R1 l r => ⟨G1, ρ1, R1, g.mono ρ1 _ _ (fun ds ρ2 q vs G2 H2 R2 l2 rs => q _ G2 H2 R2 (l.trans l2) (.val (rp_same l2.st.gg r) rs)) q⟩) q⟩⟩
theorem sr_own {j : Nat} (h : PE X a (tVar j)) (g : SR K X es mr) (hs : starEach (a :: es) X.env = (false, eval a X.env) :: starEach es X.env := by rfl) : SR K X (a :: es) (rOwn j mr) :=
  ⟨fun ρ k k' w => mo_own ρ _ _ fun _ _ => g.mono ρ _ _ fun ds ρ2 => w _ _, pa_weak (pa_cons h g.pa hs) fun σ H Q ⟨G, ρ, R, q⟩ => by
    obtain ⟨x, _, hx, _, q⟩ := own_there R q
    exact ⟨x, hx, G, ρ, R, g.mono ρ _ _ (fun ds ρ2 q vs G2 H2 R2 l2 rs => q _ G2 H2 R2 l2 (.own hx rs)) q⟩⟩
/-- the cells that are handed in -/
def cellsOf (ρ : Cs) : List Ar → Option (List Cell)
  | [] => some []
  | .inl j :: as => match ρ[j]? with
    | some (.own d) => (cellsOf ρ as).map (.own d :: ·)
    | _ => none
  | .inr d :: as => (cellsOf ρ as).map (.fro d :: ·)
def putBack : Cs → List Ar → List Cell → Cs
  | ρ, .inl j :: as, c :: cs => putBack (ρ.set j c) as cs
  | ρ, .inr _ :: as, _ :: cs => putBack ρ as cs
  | ρ, _, _ => ρ
def slotsOf : List Ar → List Nat
  | [] => []
  | .inl j :: as => j :: slotsOf as
  | .inr _ :: as => slotsOf as
def mCall (F : Fs) (n : Nat) (mr : MR) : ME := fun ρ k => mr ρ fun as ρ1 => (slotsOf as).Nodup ∧ slotsOf (as.drop n) = [] ∧ match cellsOf ρ1 as with
  | some cs => F cs fun d cs' => k d (putBack ρ1 as cs')
  | none => False
theorem cells_get {σ : L2.St} {G H : Hp} {ρ : Cs} (R : Rel K σ G H ρ) : ∀ {vs : List V} {as : List Ar} {cs : List Cell}, ArR K σ G vs as → cellsOf ρ as = some cs → cs.length = vs.length ∧ ∀ (i : Nat) (c : Cell), cs[i]? = some c →
    (∃ d v, c = .fro d ∧ as[i]? = some (.inr d) ∧ vs[i]? = some v ∧ Rp K G v d) ∨ (∃ d j v, c = .own d ∧ as[i]? = some (.inl j) ∧ ρ[j]? = some (.own d) ∧ vs[i]? = some v ∧ σ[j]? = some (some v))
  | _, _, _, .nil, h => by
    cases h
    exact ⟨rfl, fun i c e => nomatch e⟩
  | _, _, _, .val (v := v) (d := d) (vs := vs) (as := as) r rs, h => by
    obtain ⟨cs, h1, h2⟩ := Option.map_eq_some_iff.mp (show (cellsOf ρ as).map (.fro d :: ·) = some _ from h)
    subst h2
    obtain ⟨l, ih⟩ := cells_get R rs h1
    refine ⟨congrArg (· + 1) l, fun i c e => ?_⟩
    cases i with
    | zero => cases e; exact .inl ⟨d, v, rfl, rfl, rfl, r⟩
    | succ i => exact ih i c e
  | _, _, _, .own (v := v) (j := j) (vs := vs) (as := as) hv rs, h => by
    unfold cellsOf at h
    split at h
    · rename_i d e
      obtain ⟨cs, h1, h2⟩ := Option.map_eq_some_iff.mp h
      subst h2
      obtain ⟨l, ih⟩ := cells_get R rs h1
      refine ⟨congrArg (· + 1) l, fun i c q => ?_⟩
      cases i with
      | zero => cases q; exact .inr ⟨d, j, v, rfl, rfl, e, rfl, hv⟩
      | succ i => exact ih i c q
    · cases h
theorem mem_slots {j : Nat} : ∀ {as : List Ar} {i : Nat}, as[i]? = some (.inl j) → j ∈ slotsOf as
  | [], _, h => nomatch h
  | .inl _ :: as, 0, h => by cases h; exact List.mem_cons_self
  | .inl _ :: as, i + 1, h => List.mem_cons_of_mem _ (mem_slots (as := as) (i := i) h)
  | .inr _ :: as, 0, h => nomatch h
  | .inr _ :: as, i + 1, h => mem_slots (as := as) (i := i) h
theorem slots_inj {j : Nat} : ∀ {as : List Ar} {i k : Nat}, (slotsOf as).Nodup → as[i]? = some (.inl j) → as[k]? = some (.inl j) → i = k
  | [], _, _, _, h, _ => nomatch h
  | .inl _ :: as, 0, 0, _, _, _ => rfl
  | .inl _ :: as, 0, k + 1, nd, h, h' => by cases h; exact ((List.nodup_cons.mp nd).1 (mem_slots (as := as) (i := k) h')).elim
  | .inl _ :: as, i + 1, 0, nd, h, h' => by cases h'; exact ((List.nodup_cons.mp nd).1 (mem_slots (as := as) (i := i) h)).elim
  | .inl _ :: as, i + 1, k + 1, nd, h, h' => congrArg (· + 1) (slots_inj (as := as) (List.nodup_cons.mp nd).2 h h')
  | .inr _ :: as, 0, _, _, h, _ => nomatch h
  | .inr _ :: as, _, 0, _, _, h' => nomatch h'
  | .inr _ :: as, i + 1, k + 1, nd, h, h' => congrArg (· + 1) (slots_inj (as := as) nd h h')
/-- a slot behind the call -/
theorem pb_get {j : Nat} {c : Cell} : ∀ {as : List Ar} {cs : List Cell} {ρ : Cs}, (slotsOf as).Nodup → (putBack ρ as cs)[j]? = some c →
    (∃ i : Nat, as[i]? = some (Sum.inl j) ∧ cs[i]? = some c) ∨ (ρ[j]? = some c ∧ ∀ i : Nat, as[i]? = some (.inl j) → cs.length ≤ i)
  | [], cs, ρ, _, h => by
    unfold putBack at h
    exact .inr ⟨h, fun i e => nomatch e⟩
  | .inl a :: as, [], ρ, _, h => by
    unfold putBack at h
    exact .inr ⟨h, fun i _ => Nat.zero_le _⟩
  | .inr a :: as, [], ρ, _, h => by
    unfold putBack at h
    exact .inr ⟨h, fun i _ => Nat.zero_le _⟩
  | .inl a :: as, c0 :: cs, ρ, nd, h => by
    unfold putBack at h
    obtain ⟨n1, n2⟩ := List.nodup_cons.mp nd
    rcases pb_get (as := as) (cs := cs) n2 h with ⟨i, h1, h2⟩ | ⟨h1, h2⟩
    · exact .inl ⟨i + 1, h1, h2⟩
    · rcases set_get h1 with ⟨rfl, _, z⟩ | ⟨ne, z⟩
      · exact .inl ⟨0, rfl, by rw [z]; rfl⟩
      · refine .inr ⟨z, fun i e => ?_⟩
        cases i with
        | zero => cases e; exact (ne rfl).elim
        | succ i => exact Nat.succ_le_succ (h2 i e)
  | .inr a :: as, c0 :: cs, ρ, nd, h => by
    unfold putBack at h
    rcases pb_get (as := as) (cs := cs) nd h with ⟨i, h1, h2⟩ | ⟨h1, h2⟩
    · exact .inl ⟨i + 1, h1, h2⟩
    · refine .inr ⟨h1, fun i e => ?_⟩
      cases i with
      | zero => cases e
      | succ i => exact Nat.succ_le_succ (h2 i e)
theorem pb_len : ∀ {as : List Ar} {cs : List Cell} {ρ : Cs}, (putBack ρ as cs).length = ρ.length
  | [], _, _ => by unfold putBack; rfl
  | .inl _ :: _, [], _ => by unfold putBack; rfl
  | .inr _ :: _, [], _ => by unfold putBack; rfl
  | .inl a :: as, c0 :: cs, ρ => by
    unfold putBack
    rw [pb_len (as := as) (cs := cs), List.length_set]
  | .inr a :: as, c0 :: cs, ρ => by
    unfold putBack
    exact pb_len (as := as) (cs := cs)
theorem drop_slots {n i j : Nat} {as : List Ar} (h : slotsOf (as.drop n) = []) (e : as[i]? = some (.inl j)) : i < n := by
  refine Classical.byContradiction fun z => ?_
  have q : (as.drop n)[i - n]? = some (.inl j) := by
    rw [List.getElem?_drop, show n + (i - n) = i by omega]
    exact e
  have := mem_slots q
  rw [h] at this
  cases this
theorem t_call {F : Fs} {np n : Nat} {E : XK} (hm : Mo mr) (hF : ∀ cs (k k' : D → List Cell → Prop), (∀ d cs', k d cs' → k' d cs') → F cs k → F cs k') (hnp : ∀ cs k, F cs k → cs.length = np) (hn : n ≤ np) (σ : L2.St) (H : Hp) (Q : VK) (h : tE K (fE K) (mCall F n mr) σ H Q) :
    tCall (spD K np n F) [] E (tR K mr) σ H Q := by
  obtain ⟨G, ρ, R, h⟩ := h
  refine ⟨G, ρ, R, hm ρ _ _ (fun as ρ1 q vs G1 H1 R1 l1 ar => ?_) h⟩
  obtain ⟨nd, ds, q⟩ := q
  rw [List.append_nil]
  split at q
  · rename_i cs hcs
    obtain ⟨hl, get⟩ := cells_get R1 ar hcs
    have hv : vs.length = np := by rw [← hl]; exact hnp _ _ q
    -- the cells of the call
    have RR : Rel K (vs.map some) G1 H1 cs := by
      refine ⟨R1.gh, by rw [List.length_map, hl], fun i d e => ?_, fun i d e => ?_, fun i k p d e h h' g g' => ?_⟩
      · rcases get i _ e with ⟨d', v, z, _, hv, r⟩ | ⟨d', j, v, z, _⟩
        · cases z
          exact ⟨v, by rw [List.getElem?_map, hv]; rfl, r⟩
        · cases z
      · rcases get i _ e with ⟨d', v, z, _⟩ | ⟨d', j, v, z, _, hj, hv, hs⟩
        · cases z
        · cases z
          obtain ⟨p, o, h1, h2⟩ := R1.own j d hj
          rw [hs] at h1
          cases h1
          exact ⟨p, o, by rw [List.getElem?_map, hv]; rfl, h2⟩
      · rcases get i _ h with ⟨d', v, z, _⟩ | ⟨d', j, v, z, ha, hj, hv, hs⟩
        · cases z
        · rcases get k _ h' with ⟨d'', v', z', _⟩ | ⟨d'', j', v', z', ha', hj', hv', hs'⟩
          · cases z'
          · cases z
            cases z'
            rw [List.getElem?_map, hv] at g
            rw [List.getElem?_map, hv'] at g'
            cases g
            cases g'
            have := R1.apart j j' p d e hj hj' hs hs'
            subst this
            exact slots_inj nd ha ha'
    have own1 : ∀ p, Ow (vs.map some) cs p → Ow σ ρ1 p := by
      rintro p ⟨i, d, h1, h2⟩
      rcases get i _ h1 with ⟨d', v, z, _⟩ | ⟨d', j, v, z, ha, hj, hv, hs⟩
      · cases z
      · cases z
        rw [List.getElem?_map, hv] at h2
        cases h2
        exact ⟨j, d, hj, hs⟩
    refine ⟨hv, G1, cs, RR, hF _ _ _ (fun d cs' q v G' H' gh R' st r => ?_) q⟩
    have hcl : cs'.length = n := by
      rw [← R'.len, List.length_map, List.length_take]; omega
    -- an owned argument's place
    have arg : ∀ (i j : Nat), as[i]? = some (Sum.inl j) → ∃ v d, vs[i]? = some v ∧ σ[j]? = some (some v) ∧ ρ1[j]? = some (.own d) ∧ i < n ∧ cs[i]? = some (.own d) := fun i j e => by
      have hi := drop_slots ds e
      obtain ⟨c, hc⟩ : ∃ c, cs[i]? = some c := ⟨_, List.getElem?_eq_getElem (by omega)⟩
      rcases get i c hc with ⟨d', v, z, ha, _⟩ | ⟨d', j', v, z, ha, hj, hv, hs⟩
      · rw [e] at ha; cases ha
      · rw [e] at ha
        cases ha
        subst z
        exact ⟨v, d', hv, hs, hj, hi, hc⟩
    have tk : ∀ (i : Nat) (v : V), i < n → vs[i]? = some v → ((vs.take n).map some)[i]? = some (some v) := fun i v hi e => by
      rw [List.map_take, List.getElem?_take_of_lt hi, List.getElem?_map, e]; rfl
    have cases_ : ∀ (j : Nat) (c : Cell), (putBack ρ1 as cs')[j]? = some c → (∃ (i : Nat) (v : V) (d : D), as[i]? = some (Sum.inl j) ∧ cs'[i]? = some c ∧ i < n ∧ vs[i]? = some v ∧ σ[j]? = some (some v) ∧ ρ1[j]? = some (.own d)) ∨ (ρ1[j]? = some c ∧ ∀ i : Nat, as[i]? ≠ some (Sum.inl j)) := fun j c e => by
      rcases pb_get nd e with ⟨i, h1, h2⟩ | ⟨h1, h2⟩
      · obtain ⟨v, d, z1, z2, z3, z4, _⟩ := arg i j h1
        exact .inl ⟨i, v, d, h1, h2, z4, z1, z2, z3⟩
      · refine .inr ⟨h1, fun i z => ?_⟩
        have := h2 i z
        have := drop_slots ds z
        omega
    -- what isn't handed in is not touched
    have apart1 : ∀ (j : Nat) (d : D) (p : Addr), ρ1[j]? = some (Cell.own d) → σ[j]? = some (some (V.ref p)) → (∀ i : Nat, as[i]? ≠ some (Sum.inl j)) → ¬ Ow (vs.map some) cs p := fun j d p h1 h2 no ⟨i, d', h3, h4⟩ => by
      rcases get i _ h3 with ⟨_, _, z, _⟩ | ⟨d'', j', v, z, ha, hj, hv, hs⟩
      · cases z
      · rw [List.getElem?_map, hv] at h4
        cases h4
        have := R1.apart j j' p d d'' h1 hj h2 hs
        subst this
        exact no i ha
    have R2 : Rel K σ G' H' (putBack ρ1 as cs') := by
      refine ⟨gh, by rw [pb_len]; exact R1.len, fun j d e => ?_, fun j d e => ?_, fun j j' p d e h h' g g' => ?_⟩
      · rcases cases_ j _ e with ⟨i, v, d', h1, h2, h3, h4, h5, h6⟩ | ⟨h1, h2⟩
        · obtain ⟨v', g1, g2⟩ := R'.fro i d h2
          rw [tk i v h3 h4] at g1
          cases g1
          exact ⟨v, h5, g2⟩
        · obtain ⟨v, g1, g2⟩ := R1.fro j d h1
          exact ⟨v, g1, rp_same st.gg g2⟩
      · rcases cases_ j _ e with ⟨i, v, d', h1, h2, h3, h4, h5, h6⟩ | ⟨h1, h2⟩
        · obtain ⟨p, o, g1, g2⟩ := R'.own i d h2
          rw [tk i v h3 h4] at g1
          cases g1
          exact ⟨p, o, h5, g2⟩
        · obtain ⟨p, o, g1, g2, g3, g4⟩ := R1.own j d h1
          have na := apart1 j d p h1 g1 h2
          exact ⟨p, o, g1, st.hh p o na g2, st.fr p o na g2 g3 (ob_tup g4), ob_same st.gg g4⟩
      · have oj : ∀ (j : Nat) (d : D), (putBack ρ1 as cs')[j]? = some (.own d) → ∃ d, ρ1[j]? = some (.own d) := fun j d e => by
          rcases cases_ j _ e with ⟨i, v, d', h1, h2, h3, h4, h5, h6⟩ | ⟨h1, h2⟩
          · exact ⟨d', h6⟩
          · exact ⟨d, h1⟩
        obtain ⟨d1, e1⟩ := oj j d h
        obtain ⟨d2, e2⟩ := oj j' e h'
        exact R1.apart j j' p d1 d2 e1 e2 g g'
    refine q v G' H' R2 (l1.trans ⟨st.weak own1, fun p ⟨j, d, h1, h2⟩ => .inl ?_, fun _ _ => rfl⟩) r
    rcases cases_ j _ h1 with ⟨i, v, d', _, _, _, _, _, h6⟩ | ⟨h3, _⟩
    · exact ⟨j, d', h6, h2⟩
    · exact ⟨j, d, h3, h2⟩
  · exact q.elim
/-- f(e, ..) -/
theorem se_call {F : Fs} {n k : Nat} {f : Addr} {fd : FuncData} {ps : List Str} {x : Str} {p pos : Pos} (Fn : FnG X.prog X.w X.K X.mg X.base CX0 k f fd ps (spD K ps.length n F)) (hF : ∀ cs (k k' : D → List Cell → Prop), (∀ d cs', k d cs' → k' d cs') → F cs k → F cs k') (hnp : ∀ cs k, F cs k → cs.length = ps.length) (hn : n ≤ ps.length)
    (hG : Bare X.A) (hr : Room k X.A) (hg : Gl X x) (hm : X.mg x = some (.ref f)) (hk : PySem.W.keepIn X.K (.ref f) = true) (hb : Binds X.K fd ps []) (ha : SR K X (a :: es) mr) (hdb : (x == ("__debug__" : Str)) = false := by decide) (he : starEach (a :: es) X.env = (false, eval a X.env) :: starEach es X.env := by rfl)
    (hpl : (backTo pos (starEach es X.env)).any (·.1) = false := by rfl) : SE K (fE K) X (.Call (.Name x p) (a :: es) [] pos) (mCall F n mr) := by
  refine ⟨fun ρ k k' w => ha.mono ρ _ _ fun as ρ1 q => ⟨q.1, q.2.1, ?_⟩, pe_weak (pe_callG (E := fun _ _ _ => False) Fn hG hr hg hm hk hb pass0 ha.pa hdb he hpl) (t_call ha.mono hF hnp hn)⟩
  have q := q.2.2
  revert q
  cases cellsOf ρ1 as with
  | none => exact id
  | some cs => exact hF _ _ _ fun d cs' => w _ _
end
end Dl

set_option Elab.async false
set_option linter.all false
set_option maxRecDepth 100000
set_option maxHeartbeats 4000000
namespace Dl
open PySem PySem.Spec PyProof.Rows L2 Br
section
variable {K : PySem.W.Frag} {X : Cx} {G H : Hp} {x : V}
/-! ### what a view tells -/
theorem vw_int {i : Int} (h : Vw K G H x (.int i)) : x = .int i := by
  cases h with
  | fro r => cases r; rfl
  | own _ r => cases r
theorem vw_str {z : Str} (h : Vw K G H x (.str z)) : x = .str z := by
  cases h with
  | fro r => cases r; rfl
  | own _ r => cases r
theorem vw_bl {b : Bool} (h : Vw K G H x (.bool b)) : x = .bl b := by
  cases h with
  | fro r => cases r; rfl
  | own _ r => cases r
theorem vw_non (h : Vw K G H x .none) : x = .non := by
  cases h with
  | fro r => cases r; rfl
  | own _ r => cases r
theorem vw_list {ds : List D} (s : Same G H) (h : Vw K G H x (.list ds)) : ∃ a xs, x = .ref a ∧ Rd H a (.lst xs) ∧ RpAll K G xs ds := by
  cases h with
  | fro r => cases r with
    | lst q a => exact ⟨_, _, rfl, rd_same s q, a⟩
  | own e r => cases r with
    | lst a => exact ⟨_, _, rfl, .inl e, a⟩
theorem vw_scr {ns : List Int} (s : Same G H) (h : Vw K G H x (.scr ns)) : ∃ a, x = .ref a ∧ SqL K H a (ns.map V.int) := by
  cases h with
  | fro r => cases r with
    | scr q => exact ⟨_, rfl, s.seq q⟩
  | own e r => cases r
theorem vw_tup {c : Tk} {ds : List D} (s : Same G H) (h : Vw K G H x (.tuple c ds)) : ∃ a xs, x = .ref a ∧ Rp K G x (.tuple c ds) ∧ SqT K H a xs ∧ RpAll K G xs ds := by
  cases h with
  | fro r =>
    obtain ⟨a, xs, rfl, q, ra, _⟩ := rp_tup r
    exact ⟨a, xs, rfl, r, sqT_same s q, ra⟩
  | own e r => cases r
theorem vw_rp {d : D} (s : Same G H) (h : Vw K G H x d) : Rp K H x d := by
  cases h with
  | fro r => exact rp_same s r
  | own e r => exact ob_rp (ob_same s r) e
theorem vw_dict {ps : List (D × D)} (s : Same G H) (h : Vw K G H x (.dict ps)) : ∃ a, x = .ref a ∧
    ((∃ (ks : List Key) (xs : List V) (ds : List D), Rd H a (.dK (ks.zip xs)) ∧ ks.length = xs.length ∧ RpAll K G xs ds ∧ ps = (ks.map keyD).zip ds) ∨
     (∃ (ks : List (List Key)) (xs : List V) (ds : List D), Rd H a (.dT (ks.zip xs)) ∧ ks.length = xs.length ∧ RpAll K G xs ds ∧ ps = (ks.map fun k => D.tuple .mad (k.map keyD)).zip ds)) := by
  cases h with
  | fro r => cases r with
    | dK q l a => exact ⟨_, rfl, .inl ⟨_, _, _, rd_same s q, l, a, rfl⟩⟩
    | dT q l a => exact ⟨_, rfl, .inr ⟨_, _, _, rd_same s q, l, a, rfl⟩⟩
  | own e r => cases r with
    | dK l a => exact ⟨_, rfl, .inl ⟨_, _, _, .inl e, l, a, rfl⟩⟩
    | dT l a => exact ⟨_, rfl, .inr ⟨_, _, _, .inl e, l, a, rfl⟩⟩
/-! ### keys -/
def keyOf : D → Option Key
  | .int i => some (.inl i)
  | .str x => some (.inr x)
  | _ => none
def keysOf : List D → Option (List Key)
  | [] => some []
  | d :: ds => match keyOf d, keysOf ds with
    | some k, some ks => some (k :: ks)
    | _, _ => none
/-- a text or an int, or a tuple of such -/
def kOf : D → Option (Key ⊕ List Key)
  | .tuple _ ds => (keysOf ds).map .inr
  | d => (keyOf d).map .inl
theorem keyOf_D (k : Key) : keyOf (keyD k) = some k := by cases k <;> rfl
theorem keysOf_D : ∀ ks : List Key, keysOf (ks.map keyD) = some ks
  | [] => rfl
  | k :: ks => by
    rw [List.map_cons]
    unfold keysOf
    rw [keyOf_D, keysOf_D ks]
theorem keyOf_inv : ∀ {d : D} {k : Key}, keyOf d = some k → d = keyD k
  | .int i, _, h => by cases h; rfl
  | .str x, _, h => by cases h; rfl
theorem keysOf_inv : ∀ {ds : List D} {ks : List Key}, keysOf ds = some ks → ds = ks.map keyD
  | [], _, h => by cases h; rfl
  | d :: ds, ks, h => by
    unfold keysOf at h
    split at h
    · rename_i k ks' h1 h2
      cases h
      rw [keyOf_inv h1, keysOf_inv h2]
      rfl
    · cases h
def look {α : Type} [DecidableEq α] (f : D → Option α) (k : α) : List (D × D) → Option D
  | [] => none
  | p :: r => if f p.1 = some k then some p.2 else look f k r
/-- what a dict has for a key -/
def dLook (ps : List (D × D)) (d : D) : Option D := match kOf d with
  | some k => look kOf k ps
  | none => none
theorem kOf_D (k : Key) : kOf (keyD k) = some (.inl k) := by cases k <;> rfl
theorem kOf_T (c : Tk) (k : List Key) : kOf (.tuple c (k.map keyD)) = some (.inr k) := by
  show (keysOf (k.map keyD)).map Sum.inr = _
  rw [keysOf_D]; rfl
theorem kOf_inl {d : D} {k : Key} (h : kOf d = some (.inl k)) : d = keyD k := by
  cases d with
  | tuple c ds =>
    obtain ⟨_, _, z⟩ := Option.map_eq_some_iff.mp (show (keysOf ds).map Sum.inr = _ from h)
    cases z
  | int i => cases h; rfl
  | str x => cases h; rfl
  | none => cases h
  | bool _ => cases h
  | list _ => cases h
  | dict _ => cases h
  | scr _ => cases h
theorem kOf_inr {d : D} {k : List Key} (h : kOf d = some (.inr k)) : ∃ c, d = .tuple c (k.map keyD) := by
  cases d with
  | tuple c ds =>
    obtain ⟨ks, e, z⟩ := Option.map_eq_some_iff.mp (show (keysOf ds).map Sum.inr = _ from h)
    cases z
    exact ⟨c, by rw [keysOf_inv e]⟩
  | int i => cases h
  | str x => cases h
  | none => cases h
  | bool _ => cases h
  | list _ => cases h
  | dict _ => cases h
  | scr _ => cases h
theorem look_K {k : Key} : ∀ {ks : List Key} {xs : List V} {ds : List D}, ks.length = xs.length → RpAll K G xs ds → (∃ v d, valV (ks.zip xs) k = some v ∧ look kOf (.inl k) ((ks.map keyD).zip ds) = some d ∧ Rp K G v d) ∨ (valV (ks.zip xs) k = none ∧ look kOf (.inl k) ((ks.map keyD).zip ds) = none)
  | [], _, _, _, _ => .inr ⟨rfl, rfl⟩
  | q :: ks, _, _, hl, .nil => by cases hl
  | q :: ks, _ :: xs, _ :: ds, hl, .cons r rs => by
    have ih := look_K (k := k) (ks := ks) (Nat.succ.inj hl) rs
    show (∃ v d, valV ((q, _) :: ks.zip xs) k = some v ∧ (if kOf (keyD q) = some (.inl k) then some _ else look kOf (.inl k) ((ks.map keyD).zip ds)) = some d ∧ _) ∨ (valV ((q, _) :: ks.zip xs) k = none ∧ (if kOf (keyD q) = some (.inl k) then some _ else look kOf (.inl k) ((ks.map keyD).zip ds)) = none)
    rw [kOf_D]
    by_cases e : q = k
    · subst e
      exact .inl ⟨_, _, valV_pos rfl, if_pos rfl, r⟩
    · rw [valV_neg (show ¬ (q, _).1 = k from e), if_neg (fun z => e (Sum.inl.inj (Option.some.inj z)))]
      exact ih
theorem look_T {k : List Key} : ∀ {ks : List (List Key)} {xs : List V} {ds : List D}, ks.length = xs.length → RpAll K G xs ds → (∃ v d, valV (ks.zip xs) k = some v ∧ look kOf (.inr k) ((ks.map fun k => D.tuple .mad (k.map keyD)).zip ds) = some d ∧ Rp K G v d) ∨ (valV (ks.zip xs) k = none ∧ look kOf (.inr k) ((ks.map fun k => D.tuple .mad (k.map keyD)).zip ds) = none)
  | [], _, _, _, _ => .inr ⟨rfl, rfl⟩
  | q :: ks, _, _, hl, .nil => by cases hl
  | q :: ks, _ :: xs, _ :: ds, hl, .cons r rs => by
    have ih := look_T (k := k) (ks := ks) (Nat.succ.inj hl) rs
    show (∃ v d, valV ((q, _) :: ks.zip xs) k = some v ∧ (if kOf (.tuple .mad (q.map keyD)) = some (.inr k) then some _ else look kOf (.inr k) ((ks.map fun k => D.tuple .mad (k.map keyD)).zip ds)) = some d ∧ _) ∨ (valV ((q, _) :: ks.zip xs) k = none ∧ (if kOf (.tuple .mad (q.map keyD)) = some (.inr k) then some _ else look kOf (.inr k) ((ks.map fun k => D.tuple .mad (k.map keyD)).zip ds)) = none)
    rw [kOf_T]
    by_cases e : q = k
    · subst e
      exact .inl ⟨_, _, valV_pos rfl, if_pos rfl, r⟩
    · rw [valV_neg (show ¬ (q, _).1 = k from e), if_neg (fun z => e (Sum.inr.inj (Option.some.inj z)))]
      exact ih
/-! ### dicts asked -/
def DG (K : PySem.W.Frag) (H : Hp) (a : Addr) (y : V) (r : Option V) : Prop :=
  (∃ kvs k, Rd H a (.dK kvs) ∧ y = kV k ∧ r = valV kvs k) ∨ (∃ kvs k b, Rd H a (.dT kvs) ∧ y = .ref b ∧ SqT K H b (k.map kV) ∧ r = valV kvs k)
/-- d and the keys are of one kind -/
def isTupD : D → Bool
  | .tuple _ _ => true
  | _ => false
def fits (ps : List (D × D)) (d : D) : Bool := ps.all fun p => isTupD p.1 == isTupD d
theorem rd0_KT {P : Program} {w : World} {h : Heap} {a : Addr} (ok : HOk P w H h) (e : Rd H a (.dK [])) : (a == sysModules) = false ∧ h.DictOfH (tupleKind (mixKind P w)) a [] := by
  obtain ⟨_, hd, vs, rel, o, es, ep, h1, h2, h3, h4, h5, h6⟩ := dk_rd ok e
  cases rel
  cases q : es.toList with
  | nil => exact ⟨hd, o, es, ep, h1, h2, h3, q, (fun x z => by cases z), List.nodup_nil⟩
  | cons _ _ => rw [q] at h5; cases h5
theorem rd0_TK {P : Program} {w : World} {h : Heap} {a : Addr} (ok : HOk P w H h) (e : Rd H a (.dT [])) : (a == sysModules) = false ∧ h.DictOf (mixKind P w) a [] := by
  obtain ⟨_, hd, xs, rel, o, es, ep, h1, h2, h3, h4, h5, h6⟩ := dt_rd ok e
  cases rel
  have z : es.toList = [] := h4
  refine ⟨hd, o, es, ep, h1, h2, h3, ?_, ?_, List.nodup_nil⟩
  · intro x hx
    have := Array.mem_toList_iff.mpr hx
    rw [z] at this
    cases this
  · rw [z]; exact .nil
/-- what a dict has, with the machine's own facts: keys ints and texts, or tuples -/
inductive DK (X : Cx) (H : Hp) (s : Shared) (a : Addr) : V → Option V → Prop
  | k {k : Key} {kvs : List (Key × V)} {vs : List (Key × Value)} : (a == sysModules) = false → KV kvs vs → s.heap.DictOf (mixKind X.prog X.w) a vs → DK X H s a (kV k) (valV kvs k)
  | t {k : List Key} {b : Addr} {kvs : List (List Key × V)} {xs : List (List Key × Addr × Value)} : (a == sysModules) = false → KT H kvs xs → s.heap.DictOfH (tupleKind (mixKind X.prog X.w)) a xs → (tupleKind (mixKind X.prog X.w)).is s.heap k b → DK X H s a (.ref b) (valV kvs k)
theorem key_sq {pins : List (Addr × Obj)} {σ : L2.St} {s : Shared} {b : Addr} {ks : List Key} (I : Inv X pins σ H s) (e : SqT X.K H b (ks.map kV)) : (tupleKind (mixKind X.prog X.w)).is s.heap ks b := by
  obtain ⟨its, rv, ⟨o, ho, hc, n, hd⟩, _⟩ := I.tuple e
  exact ⟨o, its.toArray, n, ho, hc, hd, by simpa using items_are rv⟩
theorem key_vals : ∀ {ks : List Key} {xs : List V}, RpAll K G xs (ks.map keyD) → xs = ks.map kV
  | [], _, .nil => rfl
  | k :: ks, _, .cons (v := v) r rs => by
    rw [key_vals rs]
    have : v = kV k := by
      cases k with
      | inl i => cases r; rfl
      | inr x => cases r; rfl
    rw [this]; rfl
theorem key_val {k : Key} {v : V} (r : Vw K G H v (keyD k)) : v = kV k := by
  cases k with
  | inl i => exact vw_int r
  | inr x => exact vw_str r
theorem zip_nil {α β : Type} {as : List α} {bs : List β} (hl : as.length = bs.length) (h : as.zip bs = []) : as = [] := by
  cases as with
  | nil => rfl
  | cons a as => cases bs with
    | nil => cases hl
    | cons b bs => cases h
/-- a dict that is read at a key that is read -/
theorem dk_of_vw {pins : List (Addr × Obj)} {σ : L2.St} {s : Shared} {y : V} {ps : List (D × D)} {d : D} {k : Key ⊕ List Key} (I : Inv X pins σ H s) (g : Same G H) (hx : Vw X.K G H x (.dict ps)) (hy : Vw X.K G H y d) (hk : kOf d = some k) (hf : fits ps d = true) :
    ∃ a r, x = .ref a ∧ DK X H s a y r ∧ ((∃ v e, r = some v ∧ dLook ps d = some e ∧ Rp X.K G v e) ∨ (r = none ∧ dLook ps d = none)) := by
  have lk : dLook ps d = look kOf k ps := by unfold dLook; rw [hk]
  obtain ⟨a, rfl, c⟩ := vw_dict g hx
  refine ⟨a, ?_⟩
  rcases k with k | k
  · have ed := kOf_inl hk
    subst ed
    have ey := key_val hy
    subst ey
    rcases c with ⟨ks, xs, ds, rd, hl, ra, rfl⟩ | ⟨ks, xs, ds, rd, hl, ra, rfl⟩
    · obtain ⟨_, hd, vs, rel, dd⟩ := dk_rd I.hok rd
      refine ⟨_, rfl, .k hd rel dd, ?_⟩
      rw [lk]
      rcases look_K (k := k) hl ra with ⟨v, e, h1, h2, h3⟩ | ⟨h1, h2⟩
      · exact .inl ⟨v, e, h1, h2, h3⟩
      · exact .inr ⟨h1, h2⟩
    · have e0 : ks = [] := by
        cases ks with
        | nil => rfl
        | cons q ks =>
          cases ra with
          | nil => cases hl
          | cons _ _ =>
            have := List.all_eq_true.mp hf _ List.mem_cons_self
            cases k <;> cases this
      subst e0
      obtain ⟨hd, dd⟩ := rd0_TK I.hok rd
      exact ⟨none, rfl, .k (kvs := []) (vs := []) hd .nil dd, .inr ⟨rfl, by rw [lk]; rfl⟩⟩
  · obtain ⟨c', ed⟩ := kOf_inr hk
    subst ed
    obtain ⟨b, ys, rfl, _, sq, ry⟩ := vw_tup g hy
    have ey := key_vals ry
    subst ey
    have isk := key_sq I sq
    rcases c with ⟨ks, xs, ds, rd, hl, ra, rfl⟩ | ⟨ks, xs, ds, rd, hl, ra, rfl⟩
    · have e0 : ks = [] := by
        cases ks with
        | nil => rfl
        | cons q ks =>
          cases ra with
          | nil => cases hl
          | cons _ _ =>
            have := List.all_eq_true.mp hf _ List.mem_cons_self
            cases q <;> cases this
      subst e0
      obtain ⟨hd, dd⟩ := rd0_KT I.hok rd
      exact ⟨none, rfl, .t (kvs := []) (xs := []) hd .nil dd isk, .inr ⟨rfl, by rw [lk]; rfl⟩⟩
    · obtain ⟨_, hd, vs, rel, dd⟩ := dt_rd I.hok rd
      refine ⟨_, rfl, .t hd rel dd isk, ?_⟩
      rw [lk]
      rcases look_T (k := k) hl ra with ⟨v, e, h1, h2, h3⟩ | ⟨h1, h2⟩
      · exact .inl ⟨v, e, h1, h2, h3⟩
      · exact .inr ⟨h1, h2⟩
theorem DK.typeIs {s : Shared} {a : Addr} {y : V} {r : Option V} (h : DK X H s a y r) : s.TypeIs (.ref a) "dict" ∧ (∀ b, Value.ref a = .ref b → ∃ ob, s.heap.get? b = some ob ∧ ob.dict = none) := by
  cases h with
  | k _ _ dd =>
    refine ⟨dd.typeIs, fun b q => ?_⟩
    cases q
    obtain ⟨ob, _, _, h1, h2, _⟩ := dd
    exact ⟨ob, h1, h2.2.1⟩
  | t _ _ dd _ =>
    refine ⟨dd.typeIs, fun b q => ?_⟩
    cases q
    obtain ⟨ob, _, _, h1, h2, _⟩ := dd
    exact ⟨ob, h1, h2.2.1⟩
variable {A : Around} {E : Value → Shared → Prop} {s : Shared} {a : Addr} {y v : V} {u : Value} {o : Option V}
theorem dk_get {Q : Value → Shared → Prop} (hu : A.units + 1 < cLine) (g : DK X H s a y (some v)) (ry : RelV y u) (h : ∀ w' t, RelV v w' → Q w' { s with toks := t }) : wpAny (model X.prog X.w) A (getItem (.ref a) u) Q E s := by
  generalize e : (some v : Option V) = r at g
  cases g with
  | k hd rel dd =>
    obtain ⟨w', hw, rw'⟩ := RelO.some_of (v := v) (o := valueAt _ _) (by rw [e]; exact rel.val _)
    exact wpAny_getItem_of (kV_is ry) dd.mapOf hw (h w' _ rw')
  | t hd rel dd hk =>
    cases ry
    obtain ⟨w', hw, rw'⟩ := RelO.some_of (v := v) (o := (atKey _ _).map (·.2)) (by rw [e]; exact rel.val _)
    obtain ⟨p, hp, hp2⟩ := Option.map_eq_some_iff.mp hw
    refine wpAny_getItem_heap (tupleKind_room_in1 hu) hk dd hp ?_
    rw [hp2]
    exact h w' _ rw'
theorem dk_in {Q : Value → Shared → Prop} (hu : A.units + 1 < cLine) (g : DK X H s a y o) (ry : RelV y u) (h : ∀ t, Q (.bool o.isSome) { s with toks := t }) : wpAny (model X.prog X.w) A (compareOp .In u (.ref a)) Q E s := by
  cases g with
  | k hd rel dd =>
    refine wpAny_in_of (kV_is ry) hd dd.mapOf ?_
    rw [← (rel.val _).isSome_eq]
    exact h _
  | @t kk _ _ _ hd rel dd hk =>
    cases ry
    refine wpAny_in_heap (tupleKind_room_in1 hu) hk hd dd ?_
    have q := (rel.val kk).isSome_eq
    rw [Option.isSome_map] at q
    rw [← q]
    exact h _
theorem dk_notIn {Q : Value → Shared → Prop} (hu : A.units + 1 < cLine) (g : DK X H s a y o) (ry : RelV y u) (h : ∀ t, Q (.bool (!o.isSome)) { s with toks := t }) : wpAny (model X.prog X.w) A (compareOp .NotIn u (.ref a)) Q E s := by
  cases g with
  | k hd rel dd =>
    refine wpAny_notIn_of (kV_is ry) hd dd.mapOf ?_
    rw [← (rel.val _).isSome_eq]
    exact h _
  | @t kk _ _ _ hd rel dd hk =>
    cases ry
    refine wpAny_notIn_heap (tupleKind_room_in1 hu) hk hd dd ?_
    have q := (rel.val kk).isSome_eq
    rw [Option.isSome_map] at q
    rw [← q]
    exact h _
theorem dk_get2 {d : V} {r : Value} {Q : Value → Shared → Prop} (hu : A.units + 1 < cLine) (g : DK X H s a y o) (ry : RelV y u) (rd : RelV d r) (h : ∀ w' t, RelV (o.getD d) w' → Q w' { s with toks := t }) : wpAny (model X.prog X.w) A (call (.builtin "dict.get") [.ref a, u, r]) Q E s := by
  cases g with
  | k hd rel dd => exact call_meetsIn PySem.F.slot_dict_get dd.typeIs PySem.F.entry_dict_get (PySem.F.args_dict_get_3 _ _ _) (meets_dict_get_default (mixKind X.prog X.w) a (kV_is ry) hd r) ⟨_, dd.mapOf, h _ _ ((rel.val _).getD rd)⟩
  | t hd rel dd hk =>
    cases ry
    exact call_meetsIn PySem.F.slot_dict_get dd.typeIs PySem.F.entry_dict_get (PySem.F.args_dict_get_3 _ _ _) (meetsH_dict_get_default (tupleKind (mixKind X.prog X.w)) a _ hd r) ⟨tupleKind_room_in1 hu, _, _, hk, dd, h _ _ ((rel.val _).getD rd)⟩
theorem dk_get1 {Q : Value → Shared → Prop} (hu : A.units + 1 < cLine) (g : DK X H s a y o) (ry : RelV y u) (h : ∀ w' t, RelV (o.getD .non) w' → Q w' { s with toks := t }) : wpAny (model X.prog X.w) A (call (.builtin "dict.get") [.ref a, u]) Q E s := by
  cases g with
  | k hd rel dd => exact call_meetsIn PySem.F.slot_dict_get dd.typeIs PySem.F.entry_dict_get (PySem.F.args_dict_get_2 _ _) (meets_dict_get (mixKind X.prog X.w) a (kV_is ry) hd) ⟨_, dd.mapOf, h _ _ ((rel.val _).getD rfl)⟩
  | t hd rel dd hk =>
    cases ry
    exact call_meetsIn PySem.F.slot_dict_get dd.typeIs PySem.F.entry_dict_get (PySem.F.args_dict_get_2 _ _) (meetsH_dict_get (tupleKind (mixKind X.prog X.w)) a _ hd) ⟨tupleKind_room_in1 hu, _, _, hk, dd, h _ _ ((rel.val _).getD rfl)⟩
end
end Dl

set_option Elab.async false
set_option linter.all false
set_option maxRecDepth 100000
set_option maxHeartbeats 4000000
namespace Dl
open PySem PySem.Spec PyProof.Rows L2 Br
/-! ### operations by data -/
abbrev Then (K : PySem.W.Frag) (π : PF) (G H : Hp) (Q : VK) : D → Prop := fun d => ∀ v G' H', Same G' H' → Stp Pure G H G' H' → π H G' H' v d → Q v H'
def rO2 (K : PySem.W.Frag) (π : PF) (o : O2) : R2 := fun x y H Q => ∃ G a b, Same G H ∧ Vw K G H x a ∧ Vw K G H y b ∧ o a b (Then K π G H Q)
def rO1 (K : PySem.W.Frag) (π : PF) (o : O1) : V → Hp → VK → Prop := fun x H Q => ∃ G a, Same G H ∧ Vw K G H x a ∧ o a (Then K π G H Q)
def rOn (K : PySem.W.Frag) (π : PF) (o : On) : List V → Hp → VK → Prop := fun xs H Q => ∃ G as, Same G H ∧ RpAll K G xs as ∧ o as (Then K π G H Q)
def Mo1 (o : O1) : Prop := ∀ a (k k' : D → Prop), (∀ d, k d → k' d) → o a k → o a k'
def Mo2 (o : O2) : Prop := ∀ a b (k k' : D → Prop), (∀ d, k d → k' d) → o a b k → o a b k'
def Mon (o : On) : Prop := ∀ as (k k' : D → Prop), (∀ d, k d → k' d) → o as k → o as k'
theorem op2_of {K : PySem.W.Frag} {π : PF} {o : O2} (m : Mo2 o) : Op2 K π (rO2 K π o) o := ⟨m, fun G H x y a b Q s hx hy q => ⟨G, a, b, s, hx, hy, q⟩⟩
theorem op1_of {K : PySem.W.Frag} {π : PF} {o : O1} (m : Mo1 o) : Op1 K π (rO1 K π o) o := ⟨m, fun G H x a Q s hx q => ⟨G, a, s, hx, q⟩⟩
theorem opn_of {K : PySem.W.Frag} {π : PF} {o : On} (m : Mon o) : Opn K π (rOn K π o) o := ⟨m, fun G H xs as Q s hx q => ⟨G, as, s, hx, q⟩⟩
section
variable {X : Cx} {pins : List (Addr × Obj)} {σ : L2.St} {G H : Hp} {s : Shared} {Q : VK}
/-- the heap stays -/
theorem stay {K : PySem.W.Frag} {d : D} {v : V} (g : Same G H) (q : Then K (pE K) G H Q d) (r : Rp K G v d) : Q v H := q v G H g .refl r
/-- a new tuple, a new list taken in -/
theorem newG {K : PySem.W.Frag} {d : D} {p : Addr} {o : HO} (g : Same G H) (q : Then K (pE K) G H Q d) (np : H p = none) (r : Rp K (upd G p o) (.ref p) d) : Q (.ref p) (upd H p o) :=
  q _ _ _ (same_new2 g np) (stp_newG g np) r
theorem rps_app {K : PySem.W.Frag} : ∀ {vs ws : List V} {xs ys : List D}, RpAll K G vs xs → RpAll K G ws ys → RpAll K G (vs ++ ws) (xs ++ ys)
  | _, _, _, _, .nil, b => b
  | _, _, _, _, .cons a r, b => .cons a (rps_app r b)
/-- what a tuple made of two is -/
def tkAdd : Tk → Tk → Tk
  | .mad, .mad => .mad
  | _, _ => .wri
theorem rp_any {K : PySem.W.Frag} {v : V} {c e : Tk} {ds : List D} (h : Rp K G v (.tuple .mad ds)) : Rp K G v (.tuple (tkAdd c e) ds) := by
  cases c <;> cases e <;> first | exact h | exact rp_weak h
theorem rp_andL {K : PySem.W.Frag} {v : V} {c e : Tk} {ds : List D} (h : Rp K G v (.tuple c ds)) : Rp K G v (.tuple (tkAdd c e) ds) := by
  cases c <;> cases e <;> first | exact h | exact rp_weak h
theorem rp_andR {K : PySem.W.Frag} {v : V} {c e : Tk} {ds : List D} (h : Rp K G v (.tuple e ds)) : Rp K G v (.tuple (tkAdd c e) ds) := by
  cases c <;> cases e <;> first | exact h | exact rp_weak h
def oAdd : O2 := fun a b k => match a, b with
  | .int i, .int j => k (.int (i + j))
  | .str x, .str y => x.length + y.length ≤ sizeLine ∧ k (.str (x ++ y))
  | .list xs, .list ys => xs.length + ys.length ≤ sizeLine ∧ k (.list (xs ++ ys))
  | .tuple c xs, .tuple e ys => xs.length + ys.length ≤ sizeLine ∧ k (.tuple (tkAdd c e) (xs ++ ys))
  | _, _ => False
theorem mo_add : Mo2 oAdd := fun a b k k' w h => by
  cases a <;> cases b <;> first | exact h.elim | exact w _ h | exact ⟨h.1, w _ h.2⟩
theorem opr_add : OpR X (binaryOp .Add) (rO2 X.K (pE X.K) oAdd) := by
  intro pins s σ H x y v u Q I rx ry h
  obtain ⟨G, a, b, g, hx, hy, q⟩ := h
  cases a <;> cases b <;> first | exact q.elim | skip
  · have ex := vw_int hx
    have ey := vw_int hy
    subst ex ey
    exact op_add pins s σ H _ _ v u Q I rx ry ⟨_, _, rfl, rfl, stay g q (.int _)⟩
  · have ex := vw_str hx
    have ey := vw_str hy
    subst ex ey
    exact op_add_str pins s σ H _ _ v u Q I rx ry ⟨_, _, rfl, rfl, q.1, stay g q.2 (.str _)⟩
  · obtain ⟨l, xs, rfl, h1, r1⟩ := vw_list g hx
    obtain ⟨b, ys, rfl, h2, r2⟩ := vw_list g hy
    cases rx
    cases ry
    obtain ⟨z, its, n, rv, e⟩ := (show ObjOk X.prog X.w H s.heap l (.lst xs) from h1.ok I.hok)
    obtain ⟨z2, its2, n2, rv2, e2⟩ := (show ObjOk X.prog X.w H s.heap b (.lst ys) from h2.ok I.hok)
    have l1 := rps_len r1
    have l2 := rps_len r2
    have l3 := rv.length
    have l4 := rv2.length
    have hz := q.1
    refine PySem.P.add_list e e2 ?_ (by rw [List.size_toArray, List.size_toArray]; omega)
    rw [show its.toArray ++ its2.toArray = (its ++ its2).toArray by simp]
    exact ⟨.ref _, _, I.lnew (t' := s.toks) (rv.append rv2) (by rw [List.length_append]; omega), rfl, newG g q.2 I.fresh (.lst (.inl upd_same) (rps_same (same_upd (g.free I.fresh)) (rps_app r1 r2)))⟩
  · obtain ⟨l, xs, rfl, s1, h1, r1⟩ := vw_tup g hx
    obtain ⟨b, ys, rfl, s2, h2, r2⟩ := vw_tup g hy
    have l1 := rps_len r1
    have l2 := rps_len r2
    have hz := q.1
    refine op_catA pins s σ H _ _ v u Q I rx ry ⟨l, b, xs, ys, rfl, rfl, h1, h2, by omega, fun e => ?_, fun _ e => ?_, fun _ _ p np => ?_⟩
    · subst e
      cases r1
      exact stay g q.2 (rp_andR s2)
    · subst e
      cases r2
      exact stay g q.2 (by rw [List.append_nil]; exact rp_andL s1)
    · exact newG g q.2 np (rp_any (.tup upd_same (rps_same (same_upd (g.free np)) (rps_app r1 r2))))
def oSub : O2 := fun a b k => match a, b with
  | .int i, .int j => k (.int (i - j))
  | _, _ => False
def oMod : O2 := fun a b k => match a, b with
  | .int i, .int j => 0 < j ∧ k (.int (i % j))
  | _, _ => False
def oFdiv : O2 := fun a b k => match a, b with
  | .int i, .int j => (0 < j ∧ j < 1073741824) ∧ k (.int (i / j))
  | _, _ => False
def oMul : O2 := fun a b k => match a, b with
  | .int i, .int j => ((-(2 ^ 64) < i ∧ i < 2 ^ 64) ∨ (-(2 ^ 64) < j ∧ j < 2 ^ 64)) ∧ k (.int (i * j))
  | _, _ => False
def oPow : O2 := fun a b k => match a, b with
  | .int i, .int j => (0 ≤ j ∧ j ≤ 1000000 ∧ i.natAbs < 2 ^ 64) ∧ k (.int (i ^ j.toNat))
  | _, _ => False
def oNeg : O1 := fun a k => match a with
  | .int i => k (.int (-i))
  | _ => False
theorem mo_sub : Mo2 oSub := fun a b k k' w h => by cases a <;> cases b <;> first | exact h.elim | exact w _ h
theorem mo_mod : Mo2 oMod := fun a b k k' w h => by cases a <;> cases b <;> first | exact h.elim | exact ⟨h.1, w _ h.2⟩
theorem mo_fdiv : Mo2 oFdiv := fun a b k k' w h => by cases a <;> cases b <;> first | exact h.elim | exact ⟨h.1, w _ h.2⟩
theorem mo_mul : Mo2 oMul := fun a b k k' w h => by cases a <;> cases b <;> first | exact h.elim | exact ⟨h.1, w _ h.2⟩
theorem mo_pow : Mo2 oPow := fun a b k k' w h => by cases a <;> cases b <;> first | exact h.elim | exact ⟨h.1, w _ h.2⟩
theorem mo_neg : Mo1 oNeg := fun a k k' w h => by cases a <;> first | exact h.elim | exact w _ h
theorem opr_ints {f : Value → Value → Sem Value} {C : Int → Int → Prop} {fn : Int → Int → V} {fd : Int → Int → D} {o : O2} (hr : OpR X f (rI C fn)) (hrp : ∀ i j, Rp X.K G (fn i j) (fd i j)) : True := trivial
theorem opr_sub : OpR X (binaryOp .Sub) (rO2 X.K (pE X.K) oSub) := by
  intro pins s σ H x y v u Q I rx ry h
  obtain ⟨G, a, b, g, hx, hy, q⟩ := h
  cases a <;> cases b <;> first | exact q.elim | skip
  have ex := vw_int hx
  have ey := vw_int hy
  subst ex ey
  exact op_sub pins s σ H _ _ v u Q I rx ry ⟨_, _, rfl, rfl, stay g q (.int _)⟩
theorem opr_mod : OpR X (binaryOp .Mod) (rO2 X.K (pE X.K) oMod) := by
  intro pins s σ H x y v u Q I rx ry h
  obtain ⟨G, a, b, g, hx, hy, q⟩ := h
  cases a <;> cases b <;> first | exact q.elim | skip
  have ex := vw_int hx
  have ey := vw_int hy
  subst ex ey
  exact op_mod pins s σ H _ _ v u Q I rx ry ⟨_, _, rfl, rfl, q.1, stay g q.2 (.int _)⟩
theorem opr_fdiv : OpR X (binaryOp .FloorDiv) (rO2 X.K (pE X.K) oFdiv) := by
  intro pins s σ H x y v u Q I rx ry h
  obtain ⟨G, a, b, g, hx, hy, q⟩ := h
  cases a <;> cases b <;> first | exact q.elim | skip
  have ex := vw_int hx
  have ey := vw_int hy
  subst ex ey
  exact op_fdiv pins s σ H _ _ v u Q I rx ry ⟨_, _, rfl, rfl, q.1, stay g q.2 (.int _)⟩
theorem opr_mul : OpR X (binaryOp .Mult) (rO2 X.K (pE X.K) oMul) := by
  intro pins s σ H x y v u Q I rx ry h
  obtain ⟨G, a, b, g, hx, hy, q⟩ := h
  cases a <;> cases b <;> first | exact q.elim | skip
  have ex := vw_int hx
  have ey := vw_int hy
  subst ex ey
  exact op_mul pins s σ H _ _ v u Q I rx ry ⟨_, _, rfl, rfl, q.1, stay g q.2 (.int _)⟩
theorem opr_pow : OpR X (binaryOp .Pow) (rO2 X.K (pE X.K) oPow) := by
  intro pins s σ H x y v u Q I rx ry h
  obtain ⟨G, a, b, g, hx, hy, q⟩ := h
  cases a <;> cases b <;> first | exact q.elim | skip
  have ex := vw_int hx
  have ey := vw_int hy
  subst ex ey
  exact op_pow pins s σ H _ _ v u Q I rx ry ⟨_, _, rfl, rfl, q.1, stay g q.2 (.int _)⟩
theorem unr_neg : UnR X (unaryOp .USub) (rO1 X.K (pE X.K) oNeg) := by
  intro pins s σ H x v Q I rx h
  obtain ⟨G, a, g, hx, q⟩ := h
  cases a <;> first | exact q.elim | skip
  have ex := vw_int hx
  subst ex
  exact un_neg pins s σ H _ v Q I rx ⟨_, rfl, stay g q (.int _)⟩
/-! comparisons -/
mutual
theorem rp_dp' {K : PySem.W.Frag} : ∀ (d : D) (v : V), Rp K H v d → (toPy d).canLay0 = true → Dp K H v (toPy d)
  | .none, _, .non, _ => .non
  | .bool _, _, .bl b, _ => .bl b
  | .int _, _, .int i, _ => .int i
  | .str _, _, .str x, _ => .str x
  | .list ds, _, .lst s a, h => .lst (.inl s) (rps_dp' ds _ a h)
  | .tuple .mad ds, _, .tup s a, h => .tup (SqT.of s) (rps_dp' ds _ a h)
  | .tuple .wri ds, _, .tupC s a, h => .tup s (rps_dp' ds _ a h)
  | .tuple .frz ds, _, .tupZ s _ a, h => .tup (.inl (.inr ⟨_, s⟩)) (rps_dp' ds _ a h)
  | .dict _, _, _, h => (Bool.false_ne_true h).elim
  | .scr _, _, _, h => (Bool.false_ne_true h).elim
theorem rps_dp' {K : PySem.W.Frag} : ∀ (ds : List D) (vs : List V), RpAll K H vs ds → PyData.canLayAll0 (toPys ds) = true → DpAll K H vs (toPys ds)
  | [], _, .nil, _ => .nil
  | d :: ds, _, .cons x r, h => .cons (rp_dp' d _ x (Bool.and_eq_true_iff.mp h).1) (rps_dp' ds _ r (Bool.and_eq_true_iff.mp h).2)
end
theorem rp_dp {K : PySem.W.Frag} {v : V} {d : D} (h : Rp K H v d) (z : (toPy d).canLay0 = true) : Dp K H v (toPy d) := rp_dp' d v h z
def shp (d : D) : Prop := SeqAt.shaped (toPy d) = true
def eqd (a b : D) : Bool := PyData.eqv (toPy a) (toPy b)
theorem any_py {a : D} : ∀ ds : List D, (toPys ds).any (fun z => PyData.eqv z (toPy a)) = ds.any fun z => eqd z a
  | [] => rfl
  | d :: ds => by
    show (PyData.eqv (toPy d) (toPy a) || (toPys ds).any fun z => PyData.eqv z (toPy a)) = (eqd d a || ds.any fun z => eqd z a)
    rw [any_py ds]; rfl
def oEq : O2 := fun a b k => match a, b with
  | .int i, .int j => k (.bool (decide (i = j)))
  | .str x, .str y => k (.bool (decide (x = y)))
  | a, b => shp a ∧ shp b ∧ k (.bool (eqd a b))
def oNe : O2 := fun a b k => match a, b with
  | .int i, .int j => k (.bool (!decide (i = j)))
  | .str x, .str y => k (.bool (!decide (x = y)))
  | a, b => shp a ∧ shp b ∧ k (.bool (!eqd a b))
theorem mo_eq : Mo2 oEq := fun a b k k' w h => by cases a <;> cases b <;> first | exact w _ h | exact ⟨h.1, h.2.1, w _ h.2.2⟩
theorem mo_ne : Mo2 oNe := fun a b k k' w h => by cases a <;> cases b <;> first | exact w _ h | exact ⟨h.1, h.2.1, w _ h.2.2⟩
theorem dint {i j : Int} : decide (V.int i = V.int j) = decide (i = j) := by
  rw [Bool.eq_iff_iff]; simp
theorem dstr {i j : Str} : decide (V.str i = V.str j) = decide (i = j) := by
  rw [Bool.eq_iff_iff]; simp
theorem opr_eq (hu : X.A.units + 64 < cLine) : OpR X (compareOp .Eq) (rO2 X.K (pE X.K) oEq) := by
  intro pins s σ H x y v u Q I rx ry h
  obtain ⟨G, a, b, g, hx, hy, q⟩ := h
  have gen : (shp a ∧ shp b ∧ Then X.K (pE X.K) G H Q (.bool (eqd a b))) → wpAny (model X.prog X.w) X.A (compareOp .Eq v u) (EP X pins σ Q) X.xe s := fun q =>
    op_eqD hu pins s σ H _ _ v u Q I rx ry ⟨toPy a, toPy b, rp_dp (vw_rp g hx) (SeqAt.canLay_of_shaped q.1), rp_dp (vw_rp g hy) (SeqAt.canLay_of_shaped q.2.1), q.1, q.2.1, stay g q.2.2 (.bl _)⟩
  cases a <;> cases b <;> first | exact gen q | skip
  · have ex := vw_int hx
    have ey := vw_int hy
    subst ex ey
    exact op_eq pins s σ H _ _ v u Q I rx ry ⟨rfl, by rw [dint]; exact stay g q (.bl _)⟩
  · have ex := vw_str hx
    have ey := vw_str hy
    subst ex ey
    exact op_eq pins s σ H _ _ v u Q I rx ry ⟨rfl, by rw [dstr]; exact stay g q (.bl _)⟩
theorem opr_ne (hu : X.A.units + 64 < cLine) : OpR X (compareOp .NotEq) (rO2 X.K (pE X.K) oNe) := by
  intro pins s σ H x y v u Q I rx ry h
  obtain ⟨G, a, b, g, hx, hy, q⟩ := h
  have gen : (shp a ∧ shp b ∧ Then X.K (pE X.K) G H Q (.bool (!eqd a b))) → wpAny (model X.prog X.w) X.A (compareOp .NotEq v u) (EP X pins σ Q) X.xe s := fun q =>
    op_neD hu pins s σ H _ _ v u Q I rx ry ⟨toPy a, toPy b, rp_dp (vw_rp g hx) (SeqAt.canLay_of_shaped q.1), rp_dp (vw_rp g hy) (SeqAt.canLay_of_shaped q.2.1), q.1, q.2.1, stay g q.2.2 (.bl _)⟩
  cases a <;> cases b <;> first | exact gen q | skip
  · have ex := vw_int hx
    have ey := vw_int hy
    subst ex ey
    exact op_ne pins s σ H _ _ v u Q I rx ry ⟨rfl, by rw [dint]; exact stay g q (.bl _)⟩
  · have ex := vw_str hx
    have ey := vw_str hy
    subst ex ey
    exact op_ne pins s σ H _ _ v u Q I rx ry ⟨rfl, by rw [dstr]; exact stay g q (.bl _)⟩
def oCmp (fi : Int → Int → Bool) (fs : List Nat → List Nat → Bool) : O2 := fun a b k => match a, b with
  | .int i, .int j => k (.bool (fi i j))
  | .str x, .str y => k (.bool (fs x.cps.toList y.cps.toList))
  | _, _ => False
theorem mo_cmp {fi : Int → Int → Bool} {fs : List Nat → List Nat → Bool} : Mo2 (oCmp fi fs) := fun a b k k' w h => by cases a <;> cases b <;> first | exact h.elim | exact w _ h
theorem opr_cmp {op : CmpOp} {fi : Int → Int → Bool} {fs : List Nat → List Nat → Bool} (hi : OpR X (compareOp op) (rI0 fun i j => .bl (fi i j))) (hs : OpR X (compareOp op) (fun x y H Q => ∃ i j, x = .str i ∧ y = .str j ∧ Q (.bl (fs i.cps.toList j.cps.toList)) H)) : OpR X (compareOp op) (rO2 X.K (pE X.K) (oCmp fi fs)) := by
  intro pins s σ H x y v u Q I rx ry h
  obtain ⟨G, a, b, g, hx, hy, q⟩ := h
  cases a <;> cases b <;> first | exact q.elim | skip
  · have ex := vw_int hx
    have ey := vw_int hy
    subst ex ey
    exact hi pins s σ H _ _ v u Q I rx ry ⟨_, _, rfl, rfl, stay g q (.bl _)⟩
  · have ex := vw_str hx
    have ey := vw_str hy
    subst ex ey
    exact hs pins s σ H _ _ v u Q I rx ry ⟨_, _, rfl, rfl, stay g q (.bl _)⟩
abbrev oLt : O2 := oCmp (fun i j => decide (i < j)) fun a b => decide (a < b)
abbrev oLe : O2 := oCmp (fun i j => decide (i ≤ j)) fun a b => !decide (b < a)
abbrev oGt : O2 := oCmp (fun i j => decide (j < i)) fun a b => decide (b < a)
abbrev oGe : O2 := oCmp (fun i j => decide (j ≤ i)) fun a b => !decide (a < b)
theorem opr_lt : OpR X (compareOp .Lt) (rO2 X.K (pE X.K) oLt) := opr_cmp op_lt op_lt_str
theorem opr_le : OpR X (compareOp .LtE) (rO2 X.K (pE X.K) oLe) := opr_cmp op_le op_le_str
theorem opr_gt : OpR X (compareOp .Gt) (rO2 X.K (pE X.K) oGt) := opr_cmp op_gt op_gt_str
theorem opr_ge : OpR X (compareOp .GtE) (rO2 X.K (pE X.K) oGe) := opr_cmp op_ge op_ge_str
theorem xor_f (b : Bool) : (b != false) = b := by cases b <;> rfl
theorem xor_t (b : Bool) : (b != true) = !b := by cases b <;> rfl
def isNon : D → Bool
  | .none => true
  | _ => false
def oIsN (neg : Bool) : O2 := fun a b k => match b with
  | .none => k (.bool (isNon a != neg))
  | _ => False
theorem mo_isN {neg : Bool} : Mo2 (oIsN neg) := fun a b k k' w h => by cases b <;> first | exact h.elim | exact w _ h
theorem isNon_V {K : PySem.W.Frag} {x : V} {a : D} (h : Vw K G H x a) : decide (x = .non) = isNon a := by
  cases h with
  | fro r => cases r <;> rfl
  | own _ r => cases r <;> rfl
theorem opr_isN : OpR X (compareOp .Is) (rO2 X.K (pE X.K) (oIsN false)) := by
  intro pins s σ H x y v u Q I rx ry h
  obtain ⟨G, a, b, g, hx, hy, q⟩ := h
  cases b <;> first | exact q.elim | skip
  have ey := vw_non hy
  subst ey
  refine op_isN pins s σ H _ _ v u Q I rx ry ⟨rfl, ?_⟩
  rw [isNon_V hx]
  unfold oIsN at q
  dsimp only at q
  rw [xor_f] at q
  exact stay g q (.bl _)
theorem opr_notN : OpR X (compareOp .IsNot) (rO2 X.K (pE X.K) (oIsN true)) := by
  intro pins s σ H x y v u Q I rx ry h
  obtain ⟨G, a, b, g, hx, hy, q⟩ := h
  cases b <;> first | exact q.elim | skip
  have ey := vw_non hy
  subst ey
  refine op_notN pins s σ H _ _ v u Q I rx ry ⟨rfl, ?_⟩
  rw [isNon_V hx]
  unfold oIsN at q
  dsimp only at q
  rw [xor_t] at q
  exact stay g q (.bl _)
/-! in -/
def toV : D → V
  | .int i => .int i
  | .str x => .str x
  | .bool b => .bl b
  | _ => .non
def flatD : D → Bool
  | .none => true
  | .bool _ => true
  | .int _ => true
  | .str _ => true
  | _ => false
theorem flat_V {K : PySem.W.Frag} {x : V} {a : D} (h : Rp K G x a) (f : flatD a = true) : x = toV a ∧ flatV x = true := by
  cases h <;> first | exact ⟨rfl, rfl⟩ | cases f
theorem flat_Vs {K : PySem.W.Frag} : ∀ {xs : List V} {as : List D}, RpAll K G xs as → as.all flatD = true → xs = as.map toV ∧ xs.all flatV = true
  | _, _, .nil, _ => ⟨rfl, rfl⟩
  | _, _, .cons r rs, f => by
    rw [List.all_cons, Bool.and_eq_true] at f
    obtain ⟨h1, h2⟩ := flat_V r f.1
    obtain ⟨h3, h4⟩ := flat_Vs rs f.2
    exact ⟨by rw [h1, h3]; rfl, by rw [List.all_cons, h2, h4]; rfl⟩
def memD (a : D) (ds : List D) : Bool := ds.any fun e => eqV (toV e) (toV a)
def oIn (neg : Bool) : O2 := fun a b k => match b with
  | .dict ps => (kOf a).isSome = true ∧ fits ps a = true ∧ k (.bool ((dLook ps a).isSome != neg))
  | .list ds => if (flatD a && ds.all flatD) = true then k (.bool (memD a ds != neg)) else shp a ∧ shp (.list ds) ∧ k (.bool ((ds.any fun z => eqd z a) != neg))
  | .tuple _ ds => flatD a = true ∧ ds.all flatD = true ∧ k (.bool (memD a ds != neg))
  | .str z => match a with
    | .str x => match x.cps.toList with
      | [c] => k (.bool (decide (c ∈ z.cps.toList) != neg))
      | _ => False
    | _ => False
  | _ => False
theorem mo_in {neg : Bool} : Mo2 (oIn neg) := fun a b k k' w h => by
  cases b with
  | dict ps => exact ⟨h.1, h.2.1, w _ h.2.2⟩
  | tuple c ds => exact ⟨h.1, h.2.1, w _ h.2.2⟩
  | list ds =>
    unfold oIn at h ⊢
    dsimp only at h ⊢
    split
    · rename_i e
      rw [if_pos e] at h
      exact w _ h
    · rename_i e
      rw [if_neg e] at h
      exact ⟨h.1, h.2.1, w _ h.2.2⟩
  | str z =>
    cases a <;> first | exact h.elim | skip
    rename_i x
    unfold oIn at h ⊢
    dsimp only at h ⊢
    split at h
    · exact w _ h
    · exact h.elim
  | _ => exact h.elim
theorem str1 {x : Str} {c : Nat} (h : x.cps.toList = [c]) : x = ⟨#[c]⟩ := by
  obtain ⟨a⟩ := x
  have : a = #[c] := by
    apply Array.ext'
    exact h
  rw [this]
theorem opr_in (hu : X.A.units + 65 < cLine) : OpR X (compareOp .In) (rO2 X.K (pE X.K) (oIn false)) := by
  intro pins s σ H x y v u Q I rx ry h
  obtain ⟨G, a, b, g, hx, hy, q⟩ := h
  unfold oIn at q
  cases b with
  | dict ps =>
    obtain ⟨h1, h2, q⟩ := q
    obtain ⟨k, hk⟩ := Option.isSome_iff_exists.mp h1
    obtain ⟨p, r, rfl, dk, c⟩ := dk_of_vw I g hy hx hk h2
    cases ry
    refine dk_in (by omega) dk rx fun t => ⟨.bl _, H, I.tok _, rfl, ?_⟩
    rw [xor_f] at q
    rcases c with ⟨v', e, rfl, e2, _⟩ | ⟨rfl, e2⟩
    · rw [e2] at q; exact stay g q (.bl _)
    · rw [e2] at q; exact stay g q (.bl _)
  | tuple c ds =>
    obtain ⟨h1, h2, q⟩ := q
    obtain ⟨b, ys, rfl, _, sq, r2⟩ := vw_tup g hy
    have rx' := vw_rp g hx
    obtain ⟨ex, fx⟩ := flat_V rx' h1
    obtain ⟨ey, fy⟩ := flat_Vs r2 h2
    refine op_in_seq pins s σ H _ _ v u Q I rx ry ⟨b, ys, rfl, .inr sq, fx, fy, ?_⟩
    rw [xor_f] at q
    have : inV x ys = memD a ds := by subst ex ey; unfold inV memD; rw [List.any_map]; rfl
    rw [if_neg Bool.false_ne_true, this]
    exact stay g q (.bl _)
  | list ds =>
    obtain ⟨b, ys, rfl, sq, r2⟩ := vw_list g hy
    dsimp only at q
    split at q
    · rename_i e
      rw [Bool.and_eq_true] at e
      have rx' := vw_rp g hx
      obtain ⟨ex, fx⟩ := flat_V rx' e.1
      obtain ⟨ey, fy⟩ := flat_Vs r2 e.2
      refine op_in_seq pins s σ H _ _ v u Q I rx ry ⟨b, ys, rfl, .inl (.inl sq), fx, fy, ?_⟩
      rw [xor_f] at q
      have : inV x ys = memD a ds := by subst ex ey; unfold inV memD; rw [List.any_map]; rfl
      rw [if_neg Bool.false_ne_true, this]
      exact stay g q (.bl _)
    · rw [xor_f] at q
      exact op_inD hu pins s σ H _ _ v u Q I rx ry ⟨toPy a, toPys ds, rp_dp (vw_rp g hx) (SeqAt.canLay_of_shaped q.1), rp_dp (vw_rp g hy) (SeqAt.canLay_of_shaped q.2.1), q.1, q.2.1, by rw [any_py]; exact stay g q.2.2 (.bl _)⟩
  | str z =>
    cases a <;> first | exact q.elim | skip
    dsimp only at q
    split at q
    · rename_i x' c e
      have ex := vw_str hx
      have ey := vw_str hy
      subst ex ey
      rw [xor_f] at q
      exact op_in_sign pins s σ H _ _ v u Q I rx ry ⟨c, z, by rw [str1 e], rfl, stay g q (.bl _)⟩
    · exact q.elim
  | _ => exact q.elim
theorem opr_notIn (hu : X.A.units + 65 < cLine) : OpR X (compareOp .NotIn) (rO2 X.K (pE X.K) (oIn true)) := by
  intro pins s σ H x y v u Q I rx ry h
  obtain ⟨G, a, b, g, hx, hy, q⟩ := h
  unfold oIn at q
  cases b with
  | dict ps =>
    obtain ⟨h1, h2, q⟩ := q
    obtain ⟨k, hk⟩ := Option.isSome_iff_exists.mp h1
    obtain ⟨p, r, rfl, dk, c⟩ := dk_of_vw I g hy hx hk h2
    cases ry
    refine dk_notIn (by omega) dk rx fun t => ⟨.bl _, H, I.tok _, rfl, ?_⟩
    rw [xor_t] at q
    rcases c with ⟨v', e, rfl, e2, _⟩ | ⟨rfl, e2⟩
    · rw [e2] at q; exact stay g q (.bl _)
    · rw [e2] at q; exact stay g q (.bl _)
  | tuple c ds =>
    obtain ⟨h1, h2, q⟩ := q
    obtain ⟨b, ys, rfl, _, sq, r2⟩ := vw_tup g hy
    have rx' := vw_rp g hx
    obtain ⟨ex, fx⟩ := flat_V rx' h1
    obtain ⟨ey, fy⟩ := flat_Vs r2 h2
    refine op_notIn_seq pins s σ H _ _ v u Q I rx ry ⟨b, ys, rfl, .inr sq, fx, fy, ?_⟩
    rw [xor_t] at q
    have : inV x ys = memD a ds := by subst ex ey; unfold inV memD; rw [List.any_map]; rfl
    rw [if_pos rfl, this]
    exact stay g q (.bl _)
  | list ds =>
    obtain ⟨b, ys, rfl, sq, r2⟩ := vw_list g hy
    dsimp only at q
    split at q
    · rename_i e
      rw [Bool.and_eq_true] at e
      have rx' := vw_rp g hx
      obtain ⟨ex, fx⟩ := flat_V rx' e.1
      obtain ⟨ey, fy⟩ := flat_Vs r2 e.2
      refine op_notIn_seq pins s σ H _ _ v u Q I rx ry ⟨b, ys, rfl, .inl (.inl sq), fx, fy, ?_⟩
      rw [xor_t] at q
      have : inV x ys = memD a ds := by subst ex ey; unfold inV memD; rw [List.any_map]; rfl
      rw [if_pos rfl, this]
      exact stay g q (.bl _)
    · rw [xor_t] at q
      exact op_notInD hu pins s σ H _ _ v u Q I rx ry ⟨toPy a, toPys ds, rp_dp (vw_rp g hx) (SeqAt.canLay_of_shaped q.1), rp_dp (vw_rp g hy) (SeqAt.canLay_of_shaped q.2.1), q.1, q.2.1, by rw [any_py]; exact stay g q.2.2 (.bl _)⟩
  | str z =>
    cases a <;> first | exact q.elim | skip
    dsimp only at q
    split at q
    · rename_i x' c e
      have ex := vw_str hx
      have ey := vw_str hy
      subst ex ey
      rw [xor_t] at q
      exact op_notIn_sign pins s σ H _ _ v u Q I rx ry ⟨c, z, by rw [str1 e], rfl, stay g q (.bl _)⟩
    · exact q.elim
  | _ => exact q.elim
/-! subscripts -/
def oIx : O2 := fun a b k => match a with
  | .list xs => match b with
    | .int i => match atI xs i with
      | some d => k d
      | none => False
    | _ => False
  | .tuple _ xs => match b with
    | .int i => match atI xs i with
      | some d => k d
      | none => False
    | _ => False
  | .scr ns => match b with
    | .int i => match atI ns i with
      | some n => k (.int n)
      | none => False
    | _ => False
  | .str z => match b with
    | .int i => z.length ≤ sizeLine ∧ match atI z.cps.toList i with
      | some c => k (.str ⟨#[c]⟩)
      | none => False
    | _ => False
  | .dict ps => (kOf b).isSome = true ∧ fits ps b = true ∧ match dLook ps b with
    | some d => k d
    | none => False
  | _ => False
theorem mo_ix : Mo2 oIx := fun a b k k' w h => by
  unfold oIx at h ⊢
  cases a with
  | list xs =>
    cases b <;> first | exact h.elim | skip
    dsimp only at h ⊢
    split at h
    · exact w _ h
    · exact h.elim
  | tuple c xs =>
    cases b <;> first | exact h.elim | skip
    dsimp only at h ⊢
    split at h
    · exact w _ h
    · exact h.elim
  | scr ns =>
    cases b <;> first | exact h.elim | skip
    dsimp only at h ⊢
    split at h
    · exact w _ h
    · exact h.elim
  | str z =>
    cases b <;> first | exact h.elim | skip
    dsimp only at h ⊢
    refine ⟨h.1, ?_⟩
    have h := h.2
    split at h
    · exact w _ h
    · exact h.elim
  | dict ps =>
    dsimp only at h ⊢
    refine ⟨h.1, h.2.1, ?_⟩
    have h := h.2.2
    split at h
    · exact w _ h
    · exact h.elim
  | _ => exact h.elim
theorem at_rps {K : PySem.W.Frag} {xs : List V} {ds : List D} {i : Int} {d : D} (r : RpAll K G xs ds) (h : atI ds i = some d) : ∃ v, atI xs i = some v ∧ Rp K G v d := by
  unfold atI at h ⊢
  rw [rps_len r]
  obtain ⟨j, hj, e⟩ := Option.bind_eq_some_iff.mp h
  obtain ⟨v, hv, rv⟩ := rps_get' r e
  exact ⟨v, Option.bind_eq_some_iff.mpr ⟨j, hj, hv⟩, rv⟩
theorem ixr_data (hu : X.A.units + 1 < cLine) : IxR X (rO2 X.K (pE X.K) oIx) := by
  intro value slice pins s σ H x y v u Q I rx ry h hs
  obtain ⟨G, a, b, g, hx, hy, q⟩ := h
  unfold oIx at q
  cases a with
  | list xs =>
    cases b <;> first | exact q.elim | skip
    dsimp only at q
    split at q
    · rename_i d e
      obtain ⟨p, ys, rfl, rd, ra⟩ := vw_list g hx
      have ey := vw_int hy
      subst ey
      obtain ⟨w, hw, rw'⟩ := at_rps ra e
      exact ix_list value slice pins s σ H _ _ v u Q I rx ry ⟨p, ys, _, w, rfl, rfl, .inl rd, hw, stay g q rw'⟩ hs
    · exact q.elim
  | tuple c xs =>
    cases b <;> first | exact q.elim | skip
    dsimp only at q
    split at q
    · rename_i d e
      obtain ⟨p, ys, rfl, _, sq, ra⟩ := vw_tup g hx
      have ey := vw_int hy
      subst ey
      obtain ⟨w, hw, rw'⟩ := at_rps ra e
      exact ix_tup value slice pins s σ H _ _ v u Q I rx ry ⟨p, ys, _, w, rfl, rfl, sq, hw, stay g q rw'⟩ hs
    · exact q.elim
  | scr ns =>
    cases b <;> first | exact q.elim | skip
    dsimp only at q
    split at q
    · rename_i n e
      obtain ⟨p, rfl, sq⟩ := vw_scr g hx
      have ey := vw_int hy
      subst ey
      refine ix_list value slice pins s σ H _ _ v u Q I rx ry ⟨p, ns.map V.int, _, .int n, rfl, rfl, sq, ?_, stay g q (.int _)⟩ hs
      unfold atI at e ⊢
      rw [List.length_map]
      obtain ⟨j, hj, e⟩ := Option.bind_eq_some_iff.mp e
      exact Option.bind_eq_some_iff.mpr ⟨j, hj, by rw [List.getElem?_map, e]; rfl⟩
    · exact q.elim
  | str z =>
    cases b <;> first | exact q.elim | skip
    dsimp only at q
    obtain ⟨hz, q⟩ := q
    split at q
    · rename_i d e
      have ex := vw_str hx
      have ey := vw_int hy
      subst ex ey
      exact ix_str value slice pins s σ H _ _ v u Q I rx ry ⟨z, _, _, rfl, rfl, hz, e, stay g q (.str _)⟩ hs
    · exact q.elim
  | dict ps =>
    obtain ⟨h1, h2, q⟩ := q
    obtain ⟨k, hk⟩ := Option.isSome_iff_exists.mp h1
    obtain ⟨p, r, rfl, dk, c⟩ := dk_of_vw I g hx hy hk h2
    cases rx
    rcases c with ⟨v', e, rfl, e2, re⟩ | ⟨rfl, e2⟩
    · rw [e2] at q
      obtain ⟨hT, _⟩ := dk.typeIs
      unfold subscriptTail
      refine wpAny_bind ?_
      rw [getitemInPython_of_ne hT.not_modules]
      refine wpAny_bind (wpAny_specialOf hT PySem.F.slot_dict_getitem.lookup ?_)
      have fin : wpAny (model X.prog X.w) X.A (subscripted slice false (.ref p) u) (fun r s₃ => wpAny (model X.prog X.w) X.A (letTemporaryGo value (.ref p) r >>= fun _ => pure r) (EP X pins σ Q) X.xe s₃) X.xe s := by
        rw [hs]
        exact wpAny_operating (dk_get hu dk ry fun w' t rw' => wpAny_bind (wpAny_letTemporaryGo (wpAny_pure ⟨v', H, I.tok _, rw', stay g q re⟩)))
      first
        | exact wpAny_pure (wpAny_bind fin)
        | exact wpAny_bind (wpAny_pure (wpAny_bind fin))
        | exact wpAny_bind fin
    · rw [e2] at q
      exact q.elim
  | _ => exact q.elim
end
end Dl

set_option Elab.async false
set_option linter.all false
set_option maxRecDepth 100000
set_option maxHeartbeats 4000000
namespace Dl
open PySem PySem.Spec PyProof.Rows L2 Br
section
variable {K : PySem.W.Frag} {X : Cx} {a b c : Expr} {ma mb mc : ME} {pos : Pos}
/-! ### the rules, by name -/
theorem se_add (hK : X.K = K) (ha : SE K (fE K) X a ma) (hb : SE K (fV K) X b mb) : SE K (fE K) X (.BinOp a .Add b pos) (mOp oAdd ma mb) := by subst hK; exact se_op opr_add (op2_of mo_add) embE ha hb
theorem se_sub (hK : X.K = K) (ha : SE K (fE K) X a ma) (hb : SE K (fV K) X b mb) : SE K (fE K) X (.BinOp a .Sub b pos) (mOp oSub ma mb) := by subst hK; exact se_op opr_sub (op2_of mo_sub) embE ha hb
theorem se_mul (hK : X.K = K) (ha : SE K (fE K) X a ma) (hb : SE K (fV K) X b mb) : SE K (fE K) X (.BinOp a .Mult b pos) (mOp oMul ma mb) := by subst hK; exact se_op opr_mul (op2_of mo_mul) embE ha hb
theorem se_mod (hK : X.K = K) (ha : SE K (fE K) X a ma) (hb : SE K (fV K) X b mb) : SE K (fE K) X (.BinOp a .Mod b pos) (mOp oMod ma mb) := by subst hK; exact se_op opr_mod (op2_of mo_mod) embE ha hb
theorem se_fdiv (hK : X.K = K) (ha : SE K (fE K) X a ma) (hb : SE K (fV K) X b mb) : SE K (fE K) X (.BinOp a .FloorDiv b pos) (mOp oFdiv ma mb) := by subst hK; exact se_op opr_fdiv (op2_of mo_fdiv) embE ha hb
theorem se_pow (hK : X.K = K) (ha : SE K (fE K) X a ma) (hb : SE K (fV K) X b mb) : SE K (fE K) X (.BinOp a .Pow b pos) (mOp oPow ma mb) := by subst hK; exact se_op opr_pow (op2_of mo_pow) embE ha hb
theorem se_neg (hK : X.K = K) (ha : SE K (fV K) X a ma) : SE K (fE K) X (.UnaryOp .USub a pos) (mUn oNeg ma) := by subst hK; exact se_un unr_neg (op1_of mo_neg) embE ha
/-- a comparison: its rule, for a test or a value -/
structure Cmp (K : PySem.W.Frag) (X : Cx) (op : CmpOp) (o : O2) : Prop where
  mo : Mo2 o
  opr : OpR X (compareOp op) (rO2 K (pE K) o)
theorem c_eq (hK : X.K = K) (hu : X.A.units + 64 < cLine) : Cmp K X .Eq oEq := by subst hK; exact ⟨mo_eq, opr_eq hu⟩
theorem c_ne (hK : X.K = K) (hu : X.A.units + 64 < cLine) : Cmp K X .NotEq oNe := by subst hK; exact ⟨mo_ne, opr_ne hu⟩
theorem c_lt (hK : X.K = K) : Cmp K X .Lt oLt := by subst hK; exact ⟨mo_cmp, opr_lt⟩
theorem c_le (hK : X.K = K) : Cmp K X .LtE oLe := by subst hK; exact ⟨mo_cmp, opr_le⟩
theorem c_gt (hK : X.K = K) : Cmp K X .Gt oGt := by subst hK; exact ⟨mo_cmp, opr_gt⟩
theorem c_ge (hK : X.K = K) : Cmp K X .GtE oGe := by subst hK; exact ⟨mo_cmp, opr_ge⟩
theorem c_is (hK : X.K = K) : Cmp K X .Is (oIsN false) := by subst hK; exact ⟨mo_isN, opr_isN⟩
theorem c_isNot (hK : X.K = K) : Cmp K X .IsNot (oIsN true) := by subst hK; exact ⟨mo_isN, opr_notN⟩
theorem c_in (hK : X.K = K) (hu : X.A.units + 65 < cLine) : Cmp K X .In (oIn false) := by subst hK; exact ⟨mo_in, opr_in hu⟩
theorem c_notIn (hK : X.K = K) (hu : X.A.units + 65 < cLine) : Cmp K X .NotIn (oIn true) := by subst hK; exact ⟨mo_in, opr_notIn hu⟩
theorem se_c {op : CmpOp} {o : O2} (h : Cmp K X op o) (ha : SE K (fE K) X a ma) (hb : SE K (fV K) X b mb) (hm : behindInMarks op b = false) : SE K (fE K) X (.Compare a [op] [b] pos) (mOp o ma mb) := se_cmp h.opr (op2_of h.mo) embE ha hb hm
theorem st_c {op : CmpOp} {o : O2} (h : Cmp K X op o) (ha : SE K (fE K) X a ma) (hb : SE K (fV K) X b mb) (hm : behindInMarks op b = false) : ST K X (.Compare a [op] [b] pos) (mTest (mOp o ma mb)) := st_cmp h.opr (op2_of h.mo) ha hb hm
/-- a < b < c -/
def mChain (o o' : O2) (ma mb mc : ME) : ME := fun ρ k => ma ρ fun da ρ1 => mb ρ1 fun db ρ2 => o da db fun d => match d with
  | .bool true => mc ρ2 fun dc ρ3 => o' db dc fun e => k e ρ3
  | .bool false => k (.bool false) ρ2
  | _ => False
theorem se_item (hK : X.K = K) (hu : X.A.units + 1 < cLine) (ha : SE K (fE K) X a ma) (hb : SE K (fV K) X b mb) (hs : PlainIx b) : SE K (fE K) X (.Subscript a b pos) (mOp oIx ma mb) := by subst hK; exact se_ix (ixr_data hu) (op2_of mo_ix) embE ha hb hs
theorem se_itemO {i : Nat} (hK : X.K = K) (hu : X.A.units + 1 < cLine) (ha : PE X a (tVar i)) (hb : SE K (fV K) X b mb) (hs : PlainIx b) : SE K (fE K) X (.Subscript a b pos) (mOpO oIx i mb) := by subst hK; exact se_ixO (ixr_data hu) (op2_of mo_ix) embE ha hb hs
/-- a constant of the module -/
theorem se_glob {x : Str} {v : V} {u : Value} {d : D} {p : Pos} (hg : Gl X x) (hm : X.mg x = some u) (r : RelV v u) (h : ∀ G, Rp K G v d) (hd : (x == ("__debug__" : Str)) = false := by decide) : SE K (fE K) X (.Name x p) (mC d) := se_const (pe_glob hg hm r hd) h
/-! ### d.get -/
def mGet2 (ma mb mc : ME) : ME := fun ρ k => ma ρ fun da ρ1 => match da with
  | .dict ps => mb ρ1 fun db ρ2 => mc ρ2 fun dc ρ3 => (kOf db).isSome = true ∧ fits ps db = true ∧ k ((dLook ps db).getD dc) ρ3
  | _ => False
def mGet1 (ma mb : ME) : ME := fun ρ k => ma ρ fun da ρ1 => match da with
  | .dict ps => mb ρ1 fun db ρ2 => (kOf db).isSome = true ∧ fits ps db = true ∧ k ((dLook ps db).getD .none) ρ2
  | _ => False
/-- of an owned one -/
def mGet2O (i : Nat) (mb mc : ME) : ME := fun ρ k => mOwn i ρ fun da _ => match da with
  | .dict _ => mb ρ fun db ρ2 => mc ρ2 fun dc ρ3 => mOwn i ρ3 fun da _ => match da with
    | .dict ps => (kOf db).isSome = true ∧ fits ps db = true ∧ k ((dLook ps db).getD dc) ρ3
    | _ => False
  | _ => False
theorem vw_isD {G H : Hp} {x : V} {ps : List (D × D)} (g : Same G H) (h : Vw K G H x (.dict ps)) : ∃ a, x = .ref a ∧ IsD H a := by
  obtain ⟨a, e, c⟩ := vw_dict g h
  rcases c with ⟨_, _, _, rd, _⟩ | ⟨_, _, _, rd, _⟩
  · exact ⟨a, e, .inl ⟨_, rd⟩⟩
  · exact ⟨a, e, .inr ⟨_, rd⟩⟩
/-- what d.get(y, z) asks of the values -/
def rGet (K : PySem.W.Frag) (x y z : V) (H : Hp) (Q : VK) : Prop := ∃ G ps db dc, Same G H ∧ Vw K G H x (.dict ps) ∧ Rp K G y db ∧ Rp K G z dc ∧ (kOf db).isSome = true ∧ fits ps db = true ∧ ∀ v, Rp K G v ((dLook ps db).getD dc) → Q v H
theorem get_run {pins : List (Addr × Obj)} {σ : L2.St} {H : Hp} {s : Shared} {Q : VK} {x y z : V} {u w : Value} {p : Addr} (hu : X.A.units + 1 < cLine) (I : Inv X pins σ H s) (h : rGet X.K x y z H Q) (ex : x = .ref p) (ry : RelV y u) (rz : RelV z w) :
    wpAny (model X.prog X.w) X.A (call (.builtin "dict.get") [.ref p, u, w]) (EP X pins σ Q) X.xe s := by
  subst ex
  obtain ⟨G, ps, db, dc, g, hx, hy, hz, h1, h2, q⟩ := h
  obtain ⟨k, hk⟩ := Option.isSome_iff_exists.mp h1
  obtain ⟨p', r, e, dk, c⟩ := dk_of_vw I g hx (.fro hy) hk h2
  cases e
  refine dk_get2 hu dk ry rz fun w' t rw' => ⟨r.getD z, H, I.tok _, rw', ?_⟩
  rcases c with ⟨v', e, rfl, e2, re⟩ | ⟨rfl, e2⟩
  · rw [e2] at q; exact q v' re
  · rw [e2] at q; exact q z hz
def tGet2 (K : PySem.W.Frag) (td ty tz : TE) : TE := fun σ H Q => td σ H fun x H1 => (∃ a, x = .ref a ∧ IsD H1 a) ∧ ty σ H1 fun y H2 => tz σ H2 fun z H3 => rGet K x y z H3 Q
theorem pe_getD {e f : Expr} {apos cpos : Pos} {td ty tz : TE} (hu : X.A.units + 1 < cLine) (ho : PE X a td) (he : PE X e ty) (hf : PE X f tz) (m : M2 X a "get" apos e f cpos) : PE X (.Call (.Attribute a "get" apos) [e, f] [] cpos) (tGet2 X.K td ty tz) := by
  constructor
  intro pins s σ H Q I h
  refine wpAny_Call_method m.base m.few m.line PySem.F.plainAttrs_dict PySem.F.slot_dict_get PySem.F.type_dict_get (thn (ho.run pins s σ H _ I h) fun u s1 hh => ?_)
  obtain ⟨x, H1, I1, rx, ⟨p, ex, dd⟩, q1⟩ := hh
  subst ex
  obtain rfl : u = Value.ref p := rx
  obtain ⟨t1, t2, _⟩ := isD_at I1 dd
  refine ⟨t1, t2, ?_⟩
  rw [m.trees]
  refine Calls.callWith_builtin rfl (Calls.evalArgs_plain (Calls.spliced_cons (thn (he.run pins s1 σ H1 _ I1 q1) fun iv s2 hh2 => ?_)))
  obtain ⟨y, H2, I2, ry, q2⟩ := hh2
  refine Calls.spliced_cons (thn (hf.run pins s2 σ H2 _ I2 q2) fun fv s3 hh3 => Calls.spliced_nil ?_)
  obtain ⟨z, H3, I3, rz, q3⟩ := hh3
  exact get_run hu I3 q3 rfl ry rz
theorem se_get2 {e f : Expr} {apos cpos : Pos} (hK : X.K = K) (hu : X.A.units + 1 < cLine) (ha : SE K (fE K) X a ma) (hb : SE K (fE K) X e mb) (hc : SE K (fE K) X f mc) (m : M2 X a "get" apos e f cpos) : SE K (fE K) X (.Call (.Attribute a "get" apos) [e, f] [] cpos) (mGet2 ma mb mc) := by
  subst hK
  refine ⟨fun ρ k k' w => ha.mono ρ _ _ fun da ρ1 q => ?_, pe_weak (pe_getD hu ha.pe hb.pe hc.pe m) fun σ H Q ⟨G, ρ, R, q⟩ => ⟨G, ρ, R, ha.mono ρ _ _ (fun da ρ1 q x G1 H1 R1 l1 rx => ?_) q⟩⟩
  · cases da <;> first | exact q.elim | exact hb.mono ρ1 _ _ (fun db ρ2 => hc.mono ρ2 _ _ fun dc ρ3 q => ⟨q.1, q.2.1, w _ _ q.2.2⟩) q
  · cases da <;> first | exact q.elim | skip
    refine ⟨vw_isD R1.gh (.fro rx), G1, ρ1, R1, hb.mono ρ1 _ _ (fun db ρ2 q y G2 H2 R2 l2 ry => ⟨G2, ρ2, R2, hc.mono ρ2 _ _ (fun dc ρ3 q z G3 H3 R3 l3 rz => ?_) q⟩) q⟩
    exact ⟨G3, _, db, dc, R3.gh, .fro (rp_same (l2.trans l3).st.gg rx), rp_same l3.st.gg ry, rz, q.1, q.2.1, fun v rv => q.2.2 v G3 H3 R3 ((l1.trans l2).trans l3) rv⟩
theorem se_get2O {i : Nat} {e f : Expr} {apos cpos : Pos} (hK : X.K = K) (hu : X.A.units + 1 < cLine) (ha : PE X a (tVar i)) (hb : SE K (fE K) X e mb) (hc : SE K (fE K) X f mc) (m : M2 X a "get" apos e f cpos) : SE K (fE K) X (.Call (.Attribute a "get" apos) [e, f] [] cpos) (mGet2O i mb mc) := by
  subst hK
  refine ⟨fun ρ k k' w => mo_own ρ _ _ fun da _ q => ?_, pe_weak (pe_getD hu ha hb.pe hc.pe m) fun σ H Q ⟨G, ρ, R, q⟩ => ?_⟩
  · cases da <;> first | exact q.elim | skip
    refine hb.mono ρ _ _ (fun db ρ2 => hc.mono ρ2 _ _ fun dc ρ3 q => mo_own ρ3 _ _ (fun da _ q => ?_) q) q
    cases da <;> first | exact q.elim | exact ⟨q.1, q.2.1, w _ _ q.2.2⟩
  · obtain ⟨x, da, hx, vx, q⟩ := own_there R q
    cases da <;> first | exact q.elim | skip
    refine ⟨x, hx, vw_isD R.gh vx, G, ρ, R, hb.mono ρ _ _ (fun db ρ2 q y G2 H2 R2 l2 ry => ⟨G2, ρ2, R2, hc.mono ρ2 _ _ (fun dc ρ3 q z G3 H3 R3 l3 rz => ?_) q⟩) q⟩
    obtain ⟨x', da, hx', vx', q⟩ := own_there R3 q
    rw [hx] at hx'
    cases hx'
    cases da <;> first | exact q.elim | skip
    exact ⟨G3, _, db, dc, R3.gh, vx', rp_same l3.st.gg ry, rz, q.1, q.2.1, fun v rv => q.2.2 v G3 H3 R3 (l2.trans l3) rv⟩
/-! ### calls of built-ins -/
variable {π : PF} {φ : Fl} {x : Str} {p : Pos}
theorem t_1 {r : List V → Hp → VK → Prop} {o : O1} (hr : ∀ y H Q, rO1 K π o y H Q → r [y] H Q) (mo : Mo1 o) (em : Emb K π φ) (ha : Mo ma) (σ : L2.St) (H : Hp) (Q : VK) (h : tE K φ (mUn o ma) σ H Q) : tCB r (tCons (tE K (fV K) ma) tNil) σ H Q := by
  obtain ⟨G, ρ, R, h⟩ := h
  refine ⟨G, ρ, R, ha ρ _ _ (fun da ρ1 q y G1 H1 R1 l1 ry => hr y H1 Q ⟨G1, da, R1.gh, ry, mo _ _ _ (fun d q v G2 H2 gh st pv => ?_) q⟩) h⟩
  exact q v G2 H2 (R1.pure st gh) (l1.trans (.pure st)) (em σ ρ ρ1 G H G1 H1 G2 H2 v d R1 l1 pv)
theorem se_b1 {id : String} {r : List V → Hp → VK → Prop} {o : O1} (hc : CallR X (.builtin id) r) (hr : ∀ y H Q, rO1 K π o y H Q → r [y] H Q) (mo : Mo1 o) (em : Emb K π φ) (hg : Gl X x) (hm : X.mg x = none) (hv : bootBuiltins x = some (.builtin id)) (ha : SE K (fV K) X a ma) (hs : starEach [a] X.env = [(false, eval a X.env)] := by rfl)
    (hn : x ≠ "__name__" := by decide) (hdb : (x == ("__debug__" : Str)) = false := by decide) (hpl : (backTo pos (starEach [] X.env)).any (·.1) = false := by rfl) : SE K φ X (.Call (.Name x p) [a] [] pos) (mUn o ma) :=
  ⟨mo_un mo ha.mono, pe_weak (pe_callB hc hg hm hv (pa_cons ha.pe pa_nil hs) hn hdb hs hpl) (t_1 hr mo em ha.mono)⟩
theorem se_t1 {T : String} {r : List V → Hp → VK → Prop} {o : O1} (hc : CallR X (.type T) r) (hr : ∀ y H Q, rO1 K π o y H Q → r [y] H Q) (mo : Mo1 o) (em : Emb K π φ) (hg : Gl X x) (hm : X.mg x = none) (hv : bootBuiltins x = some (.type T)) (ha : SE K (fV K) X a ma) (hs : starEach [a] X.env = [(false, eval a X.env)] := by rfl)
    (hn : x ≠ "__name__" := by decide) (hdb : (x == ("__debug__" : Str)) = false := by decide) (hpl : (backTo pos (starEach [] X.env)).any (·.1) = false := by rfl) : SE K φ X (.Call (.Name x p) [a] [] pos) (mUn o ma) :=
  ⟨mo_un mo ha.mono, pe_weak (pe_callTy hc hg hm hv (pa_cons ha.pe pa_nil hs) hn hdb hs hpl) (t_1 hr mo em ha.mono)⟩
theorem t_n {r : List V → Hp → VK → Prop} {o : On} {mr : MA} (hr : ∀ ys H Q, rOn K π o ys H Q → r ys H Q) (mo : Mon o) (em : Emb K π φ) (ha : Mo mr) (σ : L2.St) (H : Hp) (Q : VK) (h : tE K φ (mOn o mr) σ H Q) : tCB r (tA K mr) σ H Q := by
  obtain ⟨G, ρ, R, h⟩ := h
  refine ⟨G, ρ, R, ha ρ _ _ (fun ds ρ1 q ys G1 H1 R1 l1 ry => hr ys H1 Q ⟨G1, ds, R1.gh, ry, mo _ _ _ (fun d q v G2 H2 gh st pv => ?_) q⟩) h⟩
  exact q v G2 H2 (R1.pure st gh) (l1.trans (.pure st)) (em σ ρ ρ1 G H G1 H1 G2 H2 v d R1 l1 pv)
theorem se_bn {id : String} {r : List V → Hp → VK → Prop} {o : On} {mr : MA} {es : List Expr} (hc : CallR X (.builtin id) r) (hr : ∀ ys H Q, rOn K π o ys H Q → r ys H Q) (mo : Mon o) (em : Emb K π φ) (hg : Gl X x) (hm : X.mg x = none) (hv : bootBuiltins x = some (.builtin id)) (ha : SA K X (a :: es) mr)
    (hn : x ≠ "__name__" := by decide) (hdb : (x == ("__debug__" : Str)) = false := by decide) (he : starEach (a :: es) X.env = (false, eval a X.env) :: starEach es X.env := by rfl) (hpl : (backTo pos (starEach es X.env)).any (·.1) = false := by rfl) : SE K φ X (.Call (.Name x p) (a :: es) [] pos) (mOn o mr) :=
  ⟨fun ρ k k' w => ha.mono ρ _ _ fun ds ρ1 => mo _ _ _ fun d => w d ρ1, pe_weak (pe_callB hc hg hm hv ha.pa hn hdb he hpl) (t_n hr mo em ha.mono)⟩
end
end Dl

set_option Elab.async false
set_option linter.all false
set_option maxRecDepth 100000
set_option maxHeartbeats 4000000
namespace Dl
open PySem PySem.Spec PyProof.Rows L2 Br
/-! ### a def is worth what its body is worth -/
def Fof (np m n : Nat) (b : MS) : Fs := fun cs k => cs.length = np ∧ ∃ k0 : D → List Cell → Prop, (∀ d c, k0 d c → k d c) ∧ b { nx := fun ρ' => k0 .none (ρ'.take n), rt := fun d ρ' => k0 d (ρ'.take n) } (cs ++ List.replicate m .un)
theorem Fof.mo {np m n : Nat} {b : MS} : ∀ cs (k k' : D → List Cell → Prop), (∀ d cs', k d cs' → k' d cs') → Fof np m n b cs k → Fof np m n b cs k' := fun cs k k' w h => by
  obtain ⟨h1, k0, h2, h3⟩ := h
  exact ⟨h1, k0, fun d c z => w d c (h2 d c z), h3⟩
theorem Fof.mk {np m n : Nat} {b : MS} {cs : List Cell} {k : D → List Cell → Prop} (h : cs.length = np) (q : b { nx := fun ρ' => k .none (ρ'.take n), rt := fun d ρ' => k d (ρ'.take n) } (cs ++ List.replicate m .un)) : Fof np m n b cs k := ⟨h, k, fun _ _ z => z, q⟩
structure FnD (P : Program) (w : World) (K : PySem.W.Frag) (mg : Str → Option Value) (base : Heap) (k : Nat) (f : Addr) (fd : FuncData) (ps : List Str) (n : Nat) (F : Fs) : Prop where
  ok : FnG P w K mg base CX0 k f fd ps (spD K ps.length n F)
  mo : ∀ cs (k k' : D → List Cell → Prop), (∀ d cs', k d cs' → k' d cs') → F cs k → F cs k'
  ln : ∀ cs k, F cs k → cs.length = ps.length
  le : n ≤ ps.length
section
variable {P : Program} {w : World} {K : PySem.W.Frag} {mg : Str → Option Value} {base : Heap} {k : Nat} {f : Addr} {fd : FuncData} {ps : List Str}
theorem fn_of {x qual : Str} {st : Stmt} {N : List Str} {n np m : Nat} {b : MS} (Fu : Fun K x qual st f fd) (S : FnScope N ps (defScope st)) (hn : n ≤ ps.length) (hp : ps.length = np) (hm : N.length - ps.length = m)
    (body : ∀ (cdv : Value) (Ar : Around) (out : List PySem.Env) (s0 : Shared) (H : Hp) (E : XK), Bare Ar → Room k (Ar.deeper (envOfC qual (defScope st) s0.heap.objs.size f cdv)) →
      SB K n (cxOf CX0 P w K mg base N qual (defScope st) f cdv Ar out s0 H E).nox (defBody st) b) : FnD P w K mg base (k + 1) f fd ps n (Fof np m n b) := by
  subst hp hm
  refine ⟨fn_ok Fu S hn fun cdv Ar out s0 H E hG hr => ⟨b, body cdv Ar out s0 H E hG hr, fun cs k hl h => ?_⟩, Fof.mo, fun cs k h => h.1, hn⟩
  obtain ⟨_, k0, w, q⟩ := h
  exact (body cdv Ar out s0 H E hG hr).mono _ { nx := fun ρ' => k0 .none (ρ'.take n), rt := fun d ρ' => k0 d (ρ'.take n) } _ (fun ρ' => w _ _) (fun d ρ' => w _ _) (fun _ z => z) (fun _ z => z) q
end
section
variable {K : PySem.W.Frag} {X : Cx} {a : Expr} {es : List Expr} {mr : MR}
theorem se_callD {F : Fs} {n k j : Nat} {f : Addr} {fd : FuncData} {ps : List Str} {x : Str} {p pos : Pos} (Fn : FnD X.prog X.w K X.mg X.base j f fd ps n F) (hK : X.K = K) (hG : Bare X.A) (hr : Room k X.A) (hj : j ≤ k) (hg : Gl X x) (hm : X.mg x = some (.ref f)) (hk : PySem.W.keepIn K (.ref f) = true) (hb : Binds K fd ps []) (ha : SR K X (a :: es) mr)
    (hdb : (x == ("__debug__" : Str)) = false := by decide) (he : starEach (a :: es) X.env = (false, eval a X.env) :: starEach es X.env := by rfl) (hpl : (backTo pos (starEach es X.env)).any (·.1) = false := by rfl) : SE K (fE K) X (.Call (.Name x p) (a :: es) [] pos) (mCall F n mr) := by
  subst hK
  exact se_call Fn.ok Fn.mo Fn.ln Fn.le hG (hr.mono hj) hg hm hk hb ha hdb he hpl
theorem Room.u65 {k : Nat} {A : Around} (r : Room k A) : A.units + 65 < cLine := by have := r.un; omega
theorem Room.u1 {k : Nat} {A : Around} (r : Room k A) : A.units + 1 < cLine := by have := r.un; omega
/-! ### builtins -/
def oLen : O1 := fun a k => match a with
  | .str z => z.length ≤ sizeLine ∧ k (.int z.length)
  | .list ds => k (.int ds.length)
  | .tuple _ ds => k (.int ds.length)
  | .dict ps => k (.int ps.length)
  | .scr ns => k (.int ns.length)
  | _ => False
theorem mo_len : Mo1 oLen := fun a k k' w h => by cases a <;> first | exact h.elim | exact w _ h | exact ⟨h.1, w _ h.2⟩
theorem callr_len : CallR X (.builtin "len") (fun xs H Q => ∃ x, xs = [x] ∧ rO1 X.K (pE X.K) oLen x H Q) := by
  intro pins s σ H xs us Q I r h
  obtain ⟨x, rfl, G, d, g, hx, q⟩ := h
  cases d <;> first | exact q.elim | skip
  · have ex := vw_str hx
    subst ex
    exact call_len_str pins s σ H _ us Q I r ⟨_, rfl, q.1, stay g q.2 (.int _)⟩
  · obtain ⟨p, ys, rfl, rd, ra⟩ := vw_list g hx
    refine call_len_seq pins s σ H _ us Q I r ⟨p, ys, rfl, .inl (.inl rd), ?_⟩
    rw [rps_len ra]; exact stay g q (.int _)
  · obtain ⟨p, ys, rfl, _, sq, ra⟩ := vw_tup g hx
    refine call_len_seq pins s σ H _ us Q I r ⟨p, ys, rfl, .inr sq, ?_⟩
    rw [rps_len ra]; exact stay g q (.int _)
  · obtain ⟨p, rfl, c⟩ := vw_dict g hx
    obtain ⟨u, rfl, rx⟩ := vals1 r
    cases rx
    rcases c with ⟨ks, xs, ds, rd, hl, ra, rfl⟩ | ⟨ks, xs, ds, rd, hl, ra, rfl⟩
    · refine d_len I rd fun t s' I' => ⟨.int _, H, I', ⟨_, rfl⟩, ?_⟩
      have e := rps_len ra
      have e2 : (ks.zip xs).length = ((ks.map keyD).zip ds).length := by simp; omega
      rw [e2]; exact stay g q (.int _)
    · obtain ⟨z, hd, zs, rel, dd⟩ := dt_rd I.hok rd
      have hl2 := Paired.length rel
      have e := rps_len ra
      have e2 : zs.length = ((ks.map fun k => D.tuple .mad (k.map keyD)).zip ds).length := by rw [← hl2]; simp; omega
      refine call_len_dictH hd dd (by rw [← hl2]; rw [sizeLine_eq] at z; omega) ?_
      rw [e2]
      exact ⟨.int _, H, I.tok _, ⟨_, rfl⟩, stay g q (.int _)⟩
  · obtain ⟨p, rfl, sq⟩ := vw_scr g hx
    refine call_len_seq pins s σ H _ us Q I r ⟨p, _, rfl, .inl sq, ?_⟩
    rw [List.length_map]; exact stay g q (.int _)
theorem se_len {ma : ME} {p pos : Pos} (hK : X.K = K) (hg : Gl X "len") (hm : X.mg "len" = none) (ha : SE K (fV K) X a ma) (hs : starEach [a] X.env = [(false, eval a X.env)] := by rfl) (hpl : (backTo pos (starEach [] X.env)).any (·.1) = false := by rfl) :
    SE K (fE K) X (.Call (.Name "len" p) [a] [] pos) (mUn oLen ma) := by
  subst hK
  exact se_b1 callr_len (fun y H Q h => ⟨y, rfl, h⟩) mo_len embE hg hm PySem.boot_len ha hs (by decide) (by decide) hpl
def oMax : On := fun as k => match as with
  | [.int i, .int j] => k (.int (if j > i then j else i))
  | _ => False
def oMin : On := fun as k => match as with
  | [.int i, .int j] => k (.int (if j < i then j else i))
  | _ => False
theorem two_ints {P : Int → Int → Prop} {as : List D} (h : match (motive := List D → Prop) as with | [.int i, .int j] => P i j | _ => False) : ∃ i j, as = [.int i, .int j] ∧ P i j := by
  split at h
  · exact ⟨_, _, rfl, h⟩
  · exact h.elim
theorem mo_max : Mon oMax := fun as k k' w h => by
  obtain ⟨i, j, rfl, h⟩ := two_ints h
  exact w _ h
theorem mo_min : Mon oMin := fun as k k' w h => by
  obtain ⟨i, j, rfl, h⟩ := two_ints h
  exact w _ h
theorem rps2 {G : Hp} {xs : List V} {a b : D} (h : RpAll K G xs [a, b]) : ∃ x y, xs = [x, y] ∧ Rp K G x a ∧ Rp K G y b := by
  cases h with
  | cons r rs => cases rs with
    | cons r2 rs2 => cases rs2; exact ⟨_, _, rfl, r, r2⟩
theorem se_max {es : MA} {b : Expr} {p pos : Pos} (hK : X.K = K) (hc : X.calm = true) (hg : Gl X "max") (hm : X.mg "max" = none) (ha : SA K X [a, b] es) (he : starEach [a, b] X.env = (false, eval a X.env) :: starEach [b] X.env := by rfl) (hpl : (backTo pos (starEach [b] X.env)).any (·.1) = false := by rfl) :
    SE K (fE K) X (.Call (.Name "max" p) [a, b] [] pos) (mOn oMax es) := by
  refine se_bn (π := pE K) (call_max2 hc) (fun ys H Q h => ?_) mo_max embE hg hm (by decide +kernel) ha (by decide) (by decide) he hpl
  obtain ⟨G, as, g, r, q⟩ := h
  obtain ⟨i, j, rfl, q⟩ := two_ints q
  obtain ⟨x, y, rfl, r1, r2⟩ := rps2 r
  cases r1
  cases r2
  exact ⟨i, j, rfl, stay g q (.int _)⟩
theorem se_min {es : MA} {b : Expr} {p pos : Pos} (hK : X.K = K) (hc : X.calm = true) (hg : Gl X "min") (hm : X.mg "min" = none) (ha : SA K X [a, b] es) (he : starEach [a, b] X.env = (false, eval a X.env) :: starEach [b] X.env := by rfl) (hpl : (backTo pos (starEach [b] X.env)).any (·.1) = false := by rfl) :
    SE K (fE K) X (.Call (.Name "min" p) [a, b] [] pos) (mOn oMin es) := by
  refine se_bn (π := pE K) (call_min2 hc) (fun ys H Q h => ?_) mo_min embE hg hm (by decide +kernel) ha (by decide) (by decide) he hpl
  obtain ⟨G, as, g, r, q⟩ := h
  obtain ⟨i, j, rfl, q⟩ := two_ints q
  obtain ⟨x, y, rfl, r1, r2⟩ := rps2 r
  cases r1
  cases r2
  exact ⟨i, j, rfl, stay g q (.int _)⟩
def oInt : O1 := fun a k => match a with
  | .int i => k (.int i)
  | .bool b => k (.int (if b then 1 else 0))
  | _ => False
theorem mo_int : Mo1 oInt := fun a k k' w h => by cases a <;> first | exact h.elim | exact w _ h
theorem se_int_of {ma : ME} {p pos : Pos} (hg : Gl X "int") (hm : X.mg "int" = none) (ha : SE K (fV K) X a ma) (hs : starEach [a] X.env = [(false, eval a X.env)] := by rfl) (hpl : (backTo pos (starEach [] X.env)).any (·.1) = false := by rfl) :
    SE K (fE K) X (.Call (.Name "int" p) [a] [] pos) (mUn oInt ma) := by
  refine se_t1 (π := pE K) call_int1 (fun y H Q h => ?_) mo_int embE hg hm (by decide +kernel) ha hs (by decide) (by decide) hpl
  obtain ⟨G, d, g, hx, q⟩ := h
  cases d <;> first | exact q.elim | skip
  · have ex := vw_bl hx
    subst ex
    exact .inr ⟨_, rfl, stay g q (.int _)⟩
  · have ex := vw_int hx
    subst ex
    exact .inl ⟨_, rfl, stay g q (.int _)⟩
/-- list(x), tuple(x) of a list or tuple -/
def oTupOf : O1 := fun a k => match a with
  | .list ds => k (.tuple .frz ds)
  | .tuple c ds => k (.tuple c ds)
  | _ => False
theorem mo_tupOf : Mo1 oTupOf := fun a k k' w h => by cases a <;> first | exact h.elim | exact w _ h
def oLstOf : O1 := fun a k => match a with
  | .list ds => k (.list ds)
  | .tuple _ ds => k (.list ds)
  | _ => False
theorem mo_lstOf : Mo1 oLstOf := fun a k k' w h => by cases a <;> first | exact h.elim | exact w _ h
/-- tuple(x), the new one known as it lies -/
theorem call_tupleZ : CallR X (.type "tuple") (fun xs H Q => ∃ p ys, xs = [.ref p] ∧ ((SqL X.K H p ys ∧ ∀ l o, H l = none → o.dict = none → Q (.ref l) (upd H l (.frz o (.tup ys)))) ∨ (SqT X.K H p ys ∧ Q (.ref p) H))) := by
  intro pins s σ H xs us Q I r h
  obtain ⟨p, ys, rfl, h⟩ := h
  obtain ⟨u, rfl, rx⟩ := vals1 r
  cases rx
  rcases h with ⟨hq, q⟩ | ⟨hq, q⟩
  · obtain ⟨its, r', pl, hz⟩ := I.list hq
    have hlen := r'.length
    refine call_tuple_list pl.isList (fun h' kp => ?_) (by simp only [List.size_toArray] <;> omega)
    have J : Inv X pins σ H { s with heap := h' } := I.kept (t' := s.toks) kp
    refine ⟨.ref h'.objs.size, upd H h'.objs.size (.frz { cls := .type "tuple", data := .seq its.toArray } (.tup ys)), J.laid (t' := s.toks) (fun b o e => Heap.get?_push_of_some _ e) (Nat.le_refl _) ⟨Heap.get?_push_size _ rfl, hz, its, r', IsTup.new _ _⟩, rfl, q _ _ (J.hok.fresh (Nat.le_refl _)) rfl⟩
  · obtain ⟨its, r', pl, hz⟩ := I.tuple hq
    exact call_tuple_same pl ⟨.ref p, H, I, rfl, q⟩
/-- (a, b, ..), known as it lies -/
def mTupZ (m : MA) : ME := fun ρ k => m ρ fun ds ρ1 => ds.length ≤ sizeLine ∧ k (.tuple .frz ds) ρ1
def tTupZ (t : TA) : TE := fun σ H Q => t σ H fun xs H1 => xs.length ≤ sizeLine ∧ ∀ p o, H1 p = none → o.dict = none → Q (.ref p) (upd H1 p (.frz o (.tup xs)))
theorem pe_tupZ {x1} {pos : Pos} {t : TA} (h : PA X es t) : PE X (.Tuple es x1 pos) (tTupZ t) := by
  constructor
  intro pins s σ H Q I hq
  refine wpAny_Tuple_spliced (thn (h.run pos pins s σ H _ I hq) fun us s1 hh => ?_)
  obtain ⟨xs, H1, I1, r, z, q⟩ := hh
  refine ⟨by rw [← r.length]; exact z, .ref s1.heap.objs.size, upd H1 s1.heap.objs.size (.frz { cls := .type "tuple", data := .seq us.toArray } (.tup xs)), I1.laid (t' := s1.toks) (fun b u e => Heap.get?_push_of_some _ e) (Nat.le_refl _) ?_, rfl, q _ _ (I1.hok.fresh (Nat.le_refl _)) rfl⟩
  exact ⟨Heap.get?_push_size _ rfl, z, us, r, ⟨_, Heap.get?_push_size _ rfl, rfl, _, rfl⟩⟩
theorem se_tupZ {x1} {pos : Pos} {mr : MA} (h : SA K X es mr) : SE K (fE K) X (.Tuple es x1 pos) (mTupZ mr) := by
  refine ⟨fun ρ k k' w => h.mono ρ _ _ fun ds ρ1 q => ⟨q.1, w _ _ q.2⟩, pe_weak (pe_tupZ h.pa) fun σ H Q ⟨G, ρ, R, q⟩ => ⟨G, ρ, R, h.mono ρ _ _ (fun ds ρ1 q vs G1 H1 R1 l rs => ⟨by rw [rps_len rs]; exact q.1, fun p o np nd => ?_⟩) q⟩⟩
  have st := stp_newG (o := .frz o (.tup vs)) R1.gh np
  exact q.2 _ _ _ (R1.pure st (same_new2 R1.gh np)) (l.trans (.pure st)) (.tupZ upd_same nd (rps_same st.gg rs))
theorem se_tuple_of {ma : ME} {p pos : Pos} (hK : X.K = K) (hg : Gl X "tuple") (hm : X.mg "tuple" = none) (ha : SE K (fV K) X a ma) (hs : starEach [a] X.env = [(false, eval a X.env)] := by rfl) (hpl : (backTo pos (starEach [] X.env)).any (·.1) = false := by rfl) :
    SE K (fE K) X (.Call (.Name "tuple" p) [a] [] pos) (mUn oTupOf ma) := by
  subst hK
  refine se_t1 (π := pE X.K) call_tupleZ (fun y H Q h => ?_) mo_tupOf embE hg hm (by decide +kernel) ha hs (by decide) (by decide) hpl
  obtain ⟨G, d, g, hx, q⟩ := h
  cases d <;> first | exact q.elim | skip
  · obtain ⟨l, ys, rfl, rd, ra⟩ := vw_list g hx
    exact ⟨l, ys, rfl, .inl ⟨.inl rd, fun p o np nd => newG g q np (.tupZ upd_same nd (rps_same (same_upd (g.free np)) ra))⟩⟩
  · obtain ⟨l, ys, rfl, s1, sq, ra⟩ := vw_tup g hx
    exact ⟨l, ys, rfl, .inr ⟨sq, stay g q s1⟩⟩
/-- a new list, its maker's own -/
theorem newF {G H : Hp} {Q : VK} {d : D} {p : Addr} {o : HO} (g : Same G H) (q : Then K (pF K) G H Q d) (np : H p = none) (r : ObR K G o d) : Q (.ref p) (upd H p o) :=
  q _ _ _ (same_new1 g np) (stp_new np) ⟨p, o, rfl, np, upd_same, g.free np, r⟩
theorem se_list_of {ma : ME} {p pos : Pos} (hK : X.K = K) (hg : Gl X "list") (hm : X.mg "list" = none) (ha : SE K (fV K) X a ma) (hs : starEach [a] X.env = [(false, eval a X.env)] := by rfl) (hpl : (backTo pos (starEach [] X.env)).any (·.1) = false := by rfl) :
    SE K (fF K) X (.Call (.Name "list" p) [a] [] pos) (mUn oLstOf ma) := by
  subst hK
  refine se_t1 (π := pF X.K) call_list_of (fun y H Q h => ?_) mo_lstOf embF hg hm (by decide +kernel) ha hs (by decide) (by decide) hpl
  obtain ⟨G, d, g, hx, q⟩ := h
  cases d <;> first | exact q.elim | skip
  · obtain ⟨l, ys, rfl, rd, ra⟩ := vw_list g hx
    exact ⟨l, ys, rfl, .inl (.inl rd), fun p np => newF g q np (.lst ra)⟩
  · obtain ⟨l, ys, rfl, s1, sq, ra⟩ := vw_tup g hx
    exact ⟨l, ys, rfl, .inr sq, fun p np => newF g q np (.lst ra)⟩
/-- for i in range(n), range(m, n) -/
def intsD (lo : Int) (n : Nat) : List D := (List.range n).map fun i => .int (lo + (i : Nat))
def mRng1 (m : MA) : MI := fun ρ k => m ρ fun ds ρ1 => match ds with
  | [.int j] => -(2 ^ 62) ≤ j ∧ j < 2 ^ 62 ∧ k (intsD 0 j.toNat) ρ1
  | _ => False
def mRng2 (m : MA) : MI := fun ρ k => m ρ fun ds ρ1 => match ds with
  | [.int i, .int j] => (-(2 ^ 62) ≤ i ∧ i < 2 ^ 62 ∧ -(2 ^ 62) ≤ j ∧ j < 2 ^ 62) ∧ k (intsD i (j - i).toNat) ρ1
  | _ => False
theorem wk_rng {G : Hp} {lo : Int} {n : Nat} : Wk K (Itr lo n) G (intsD lo n) := by
  intro G' H' g gh
  have W := walk_range (lo := lo) (n := n)
  have ln : (intsD lo n).length = n := by unfold intsD; rw [List.length_map, List.length_range]
  refine ⟨fun i hi => W.goes i H' (by omega) trivial, by rw [ln]; exact W.stops H' trivial, fun i x H3 hi y => ?_⟩
  obtain ⟨rfl, rfl⟩ := W.yields i H' x H3 (by omega) trivial y
  refine ⟨G', .int (lo + i), gh, .refl, ?_, .int _⟩
  unfold intsD
  rw [List.getElem?_map, List.getElem?_range (by omega)]
  rfl
theorem si_range1 {tg : Expr} {m : MA} {p pos : Pos} (hg : Gl X "range") (hm : X.mg "range" = none) (ha : SA K X [a] m) (hs : starEach [a] X.env = [(false, eval a X.env)] := by rfl) : SI K X tg (.Call (.Name "range" p) [a] [] pos) (mRng1 m) := by
  refine ⟨fun ρ k k' w => ha.mono ρ _ _ fun ds ρ1 h => ?_, pi_weak (pi_range1 hg hm ha.pa hs) fun σ H R ⟨G, ρ, Rl, q⟩ => ⟨G, ρ, Rl, ha.mono ρ _ _ (fun ds ρ1 h vs G1 H1 R1 l r => ?_) q⟩⟩
  · split at h
    · exact ⟨h.1, h.2.1, w _ _ h.2.2⟩
    · exact h.elim
  · split at h
    · cases r with
      | cons r rs =>
        cases rs
        cases r
        exact ⟨_, rfl, h.1, h.2.1, h.2.2 _ G1 H1 R1 l wk_rng⟩
    · exact h.elim
theorem si_range2 {tg b : Expr} {m : MA} {p pos : Pos} (hg : Gl X "range") (hm : X.mg "range" = none) (ha : SA K X [a, b] m) (hs : starEach [a, b] X.env = [(false, eval a X.env), (false, eval b X.env)] := by rfl) (hs2 : starEach [b] X.env = [(false, eval b X.env)] := by rfl) : SI K X tg (.Call (.Name "range" p) [a, b] [] pos) (mRng2 m) := by
  refine ⟨fun ρ k k' w => ha.mono ρ _ _ fun ds ρ1 h => ?_, pi_weak (pi_range2 hg hm ha.pa hs hs2) fun σ H R ⟨G, ρ, Rl, q⟩ => ⟨G, ρ, Rl, ha.mono ρ _ _ (fun ds ρ1 h vs G1 H1 R1 l r => ?_) q⟩⟩
  · split at h
    · exact ⟨h.1, w _ _ h.2⟩
    · exact h.elim
  · split at h
    · obtain ⟨x, y, rfl, r1, r2⟩ := rps2 r
      cases r1
      cases r2
      exact ⟨_, _, rfl, h.1, h.2 _ G1 H1 R1 l wk_rng⟩
    · exact h.elim
end
end Dl

set_option Elab.async false
set_option linter.all false
set_option maxRecDepth 100000
set_option maxHeartbeats 4000000
namespace Dl
open PySem PySem.Spec PyProof.Rows L2 Br
/-! ### an owned list or dict is changed -/
def putKs (ps : List (D × D)) (k : Key ⊕ List Key) (key v : D) : List (D × D) :=
  if (ps.any fun p => decide (kOf p.1 = some k)) = true then ps.map (fun p => if kOf p.1 = some k then (p.1, v) else p) else ps ++ [(key, v)]
/-- a key that may be stored: a text, an int, a tuple that was made -/
def made : D → Bool
  | .tuple c _ => decide (c = .mad)
  | _ => true
def oPut (d i v : D) (k : D → Prop) : Prop := match d with
  | .list xs => match i with
    | .int j => match ixN xs.length j with
      | some n => k (.list (xs.set n v))
      | none => False
    | _ => False
  | .dict ps => match kOf i with
    | some q => made i = true ∧ fits ps i = true ∧ ps.length < sizeLine ∧ k (.dict (putKs ps q i v))
    | none => False
  | _ => False
theorem mo_put {d i v : D} {k k' : D → Prop} (w : ∀ d, k d → k' d) (h : oPut d i v k) : oPut d i v k' := by
  unfold oPut at h ⊢
  cases d with
  | list xs =>
    cases i <;> first | exact h.elim | skip
    dsimp only at h ⊢
    split at h
    · exact w _ h
    · exact h.elim
  | dict ps =>
    dsimp only at h ⊢
    split at h
    · exact ⟨h.1, h.2.1, h.2.2.1, w _ h.2.2.2⟩
    · exact h.elim
  | _ => exact h.elim
section
variable {K : PySem.W.Frag} {G H : Hp}
theorem any_K {k : Key} : ∀ {ks : List Key} {xs : List V} {ds : List D}, ks.length = xs.length → RpAll K G xs ds → ((ks.zip xs).any fun kv => decide (kv.1 = k)) = (((ks.map keyD).zip ds).any fun p => decide (kOf p.1 = some (.inl k)))
  | [], _, _, _, _ => rfl
  | q :: ks, _, _, hl, .nil => by cases hl
  | q :: ks, _ :: xs, _ :: ds, hl, .cons r rs => by
    have ih := any_K (k := k) (ks := ks) (Nat.succ.inj hl) rs
    show (decide (q = k) || (ks.zip xs).any _) = (decide (kOf (keyD q) = some (.inl k)) || _)
    rw [ih, kOf_D]
    congr 1
    by_cases e : q = k
    · rw [decide_eq_true e, decide_eq_true (by rw [e])]
    · rw [decide_eq_false e, decide_eq_false (fun z => e (Sum.inl.inj (Option.some.inj z)))]
theorem any_T {k : List Key} : ∀ {ks : List (List Key)} {xs : List V} {ds : List D}, ks.length = xs.length → RpAll K G xs ds → ((ks.zip xs).any fun kv => decide (kv.1 = k)) = (((ks.map fun k => D.tuple .mad (k.map keyD)).zip ds).any fun p => decide (kOf p.1 = some (.inr k)))
  | [], _, _, _, _ => rfl
  | q :: ks, _, _, hl, .nil => by cases hl
  | q :: ks, _ :: xs, _ :: ds, hl, .cons r rs => by
    have ih := any_T (k := k) (ks := ks) (Nat.succ.inj hl) rs
    show (decide (q = k) || (ks.zip xs).any _) = (decide (kOf (.tuple .mad (q.map keyD)) = some (.inr k)) || _)
    rw [ih, kOf_T]
    congr 1
    by_cases e : q = k
    · rw [decide_eq_true e, decide_eq_true (by rw [e])]
    · rw [decide_eq_false e, decide_eq_false (fun z => e (Sum.inr.inj (Option.some.inj z)))]
theorem map_K {k : Key} {v : V} {d : D} (rv : Rp K G v d) : ∀ {ks : List Key} {xs : List V} {ds : List D}, ks.length = xs.length → RpAll K G xs ds →
    ∃ (ys : List V) (es : List D), (ks.zip xs).map (fun kv => if kv.1 = k then (kv.1, v) else kv) = ks.zip ys ∧ ks.length = ys.length ∧ RpAll K G ys es ∧ ((ks.map keyD).zip ds).map (fun p => if kOf p.1 = some (.inl k) then (p.1, d) else p) = (ks.map keyD).zip es
  | [], xs, ds, hl, r => by
    cases xs with
    | nil => exact ⟨[], [], rfl, rfl, .nil, rfl⟩
    | cons _ _ => cases hl
  | q :: ks, _, _, hl, .nil => by cases hl
  | q :: ks, x :: xs, e :: ds, hl, .cons r rs => by
    obtain ⟨ys, es, h1, h2, h3, h4⟩ := map_K (k := k) rv (ks := ks) (Nat.succ.inj hl) rs
    by_cases z : q = k
    · refine ⟨v :: ys, d :: es, ?_, congrArg (· + 1) h2, .cons rv h3, ?_⟩
      · show (if q = k then (q, v) else (q, x)) :: _ = (q, v) :: ks.zip ys
        rw [if_pos z, ← h1]; rfl
      · show (if kOf (keyD q) = some (.inl k) then (keyD q, d) else (keyD q, e)) :: _ = (keyD q, d) :: (ks.map keyD).zip es
        rw [kOf_D, if_pos (by rw [z]), ← h4]; rfl
    · refine ⟨x :: ys, e :: es, ?_, congrArg (· + 1) h2, .cons r h3, ?_⟩
      · show (if q = k then (q, v) else (q, x)) :: _ = (q, x) :: ks.zip ys
        rw [if_neg z, ← h1]; rfl
      · show (if kOf (keyD q) = some (.inl k) then (keyD q, d) else (keyD q, e)) :: _ = (keyD q, e) :: (ks.map keyD).zip es
        rw [kOf_D, if_neg (fun y => z (Sum.inl.inj (Option.some.inj y))), ← h4]; rfl
theorem map_T {k : List Key} {v : V} {d : D} (rv : Rp K G v d) : ∀ {ks : List (List Key)} {xs : List V} {ds : List D}, ks.length = xs.length → RpAll K G xs ds →
    ∃ (ys : List V) (es : List D), (ks.zip xs).map (fun kv => if kv.1 = k then (kv.1, v) else kv) = ks.zip ys ∧ ks.length = ys.length ∧ RpAll K G ys es ∧ ((ks.map fun k => D.tuple .mad (k.map keyD)).zip ds).map (fun p => if kOf p.1 = some (.inr k) then (p.1, d) else p) = (ks.map fun k => D.tuple .mad (k.map keyD)).zip es
  | [], xs, ds, hl, r => by
    cases xs with
    | nil => exact ⟨[], [], rfl, rfl, .nil, rfl⟩
    | cons _ _ => cases hl
  | q :: ks, _, _, hl, .nil => by cases hl
  | q :: ks, x :: xs, e :: ds, hl, .cons r rs => by
    obtain ⟨ys, es, h1, h2, h3, h4⟩ := map_T (k := k) rv (ks := ks) (Nat.succ.inj hl) rs
    by_cases z : q = k
    · refine ⟨v :: ys, d :: es, ?_, congrArg (· + 1) h2, .cons rv h3, ?_⟩
      · show (if q = k then (q, v) else (q, x)) :: _ = (q, v) :: ks.zip ys
        rw [if_pos z, ← h1]; rfl
      · show (if kOf (.tuple .mad (q.map keyD)) = some (.inr k) then (D.tuple .mad (q.map keyD), d) else (D.tuple .mad (q.map keyD), e)) :: _ = (D.tuple .mad (q.map keyD), d) :: (ks.map fun k => D.tuple .mad (k.map keyD)).zip es
        rw [kOf_T, if_pos (by rw [z]), ← h4]; rfl
    · refine ⟨x :: ys, e :: es, ?_, congrArg (· + 1) h2, .cons r h3, ?_⟩
      · show (if q = k then (q, v) else (q, x)) :: _ = (q, x) :: ks.zip ys
        rw [if_neg z, ← h1]; rfl
      · show (if kOf (.tuple .mad (q.map keyD)) = some (.inr k) then (D.tuple .mad (q.map keyD), d) else (D.tuple .mad (q.map keyD), e)) :: _ = (D.tuple .mad (q.map keyD), e) :: (ks.map fun k => D.tuple .mad (k.map keyD)).zip es
        rw [kOf_T, if_neg (fun y => z (Sum.inr.inj (Option.some.inj y))), ← h4]; rfl
theorem zip_snoc {α β : Type} {as : List α} {bs : List β} {a : α} {b : β} (h : as.length = bs.length) : (as ++ [a]).zip (bs ++ [b]) = as.zip bs ++ [(a, b)] := by
  rw [List.zip_append h]; rfl
/-- a dict behind d[k] = v -/
theorem put_K {k : Key} {v : V} {d : D} {ks : List Key} {xs : List V} {ds : List D} (hl : ks.length = xs.length) (ra : RpAll K G xs ds) (rv : Rp K G v d) : ObR K G (.dK (putK (ks.zip xs) k v)) (.dict (putKs ((ks.map keyD).zip ds) (.inl k) (keyD k) d)) := by
  unfold putK putKs
  rw [any_K hl ra]
  split
  · obtain ⟨ys, es, h1, h2, h3, h4⟩ := map_K (k := k) rv hl ra
    rw [h1, h4]
    exact .dK h2 h3
  · have e := rps_len ra
    rw [← zip_snoc hl, ← zip_snoc (by simp; omega)]
    have := ObR.dK (K := K) (G := G) (ks := ks ++ [k]) (xs := xs ++ [v]) (ds := ds ++ [d]) (by simp; omega) (rps_app ra (.cons rv .nil))
    rw [List.map_append] at this
    exact this
theorem put_T {k : List Key} {v : V} {d : D} {ks : List (List Key)} {xs : List V} {ds : List D} (hl : ks.length = xs.length) (ra : RpAll K G xs ds) (rv : Rp K G v d) : ObR K G (.dT (putK (ks.zip xs) k v)) (.dict (putKs ((ks.map fun k => D.tuple .mad (k.map keyD)).zip ds) (.inr k) (.tuple .mad (k.map keyD)) d)) := by
  unfold putK putKs
  rw [any_T hl ra]
  split
  · obtain ⟨ys, es, h1, h2, h3, h4⟩ := map_T (k := k) rv hl ra
    rw [h1, h4]
    exact .dT h2 h3
  · have e := rps_len ra
    rw [← zip_snoc hl, ← zip_snoc (by simp; omega)]
    have := ObR.dT (K := K) (G := G) (ks := ks ++ [k]) (xs := xs ++ [v]) (ds := ds ++ [d]) (by simp; omega) (rps_app ra (.cons rv .nil))
    rw [List.map_append] at this
    exact this
end
section
variable {X : Cx} {pins : List (Addr × Obj)} {σ : L2.St} {G H : Hp} {s : Shared}
/-- d[tuple] = v where the dict has tuples for keys, or nothing -/
theorem setT {a b : Addr} {kvs : List (List Key × V)} {xs : List (List Key × Addr × Value)} {k : List Key} {v : V} {r : Value} {A : Around} {E : Value → Shared → Prop} {Q : Unit → Shared → Prop} (hu : A.units + 1 < cLine) (I : Inv X pins σ H s) (mu : Mut (H a)) (hd : (a == sysModules) = false) (rel : KT H kvs xs) (dd : s.heap.DictOfH (tupleKind (mixKind X.prog X.w)) a xs)
    (hz : kvs.length < sizeLine) (eb : H b = some (.tup (k.map kV))) (rv : RelV v r) (h : ∀ s', Inv X pins σ (upd H a (.dT (putK kvs k v))) s' → Q () s') : wpAny (model X.prog X.w) A (setItem (.ref a) (.ref b) r) Q E s := by
  have lx := Paired.length rel
  have lp := length_putK kvs k v
  refine wpAny_setItem_heap (hsz := by omega) (tupleKind_room_in1 hu) (key_of I.hok eb) dd fun h' dd' hs => h _ ?_
  obtain ⟨q, es, ep, hq, h2, h3, h4, _, h5⟩ := dd'
  refine d_write I mu hs ⟨q, hq⟩ ⟨by omega, hd, _, (rel.put k eb rv).keeps fun c ys ec => ?_, q, es, ep, hq, h2, h3, h4, h5⟩
  rw [upd_ne (fun z => by subst z; rw [ec] at mu; exact mu)]
  exact ec
theorem setK {a : Addr} {kvs : List (Key × V)} {vs : List (Key × Value)} {k : Key} {v : V} {u r : Value} {A : Around} {E : Value → Shared → Prop} {Q : Unit → Shared → Prop} (I : Inv X pins σ H s) (mu : Mut (H a)) (hd : (a == sysModules) = false) (rel : KV kvs vs) (dd : s.heap.DictOf (mixKind X.prog X.w) a vs)
    (hz : kvs.length < sizeLine) (ru : RelV (kV k) u) (rv : RelV v r) (h : ∀ s', Inv X pins σ (upd H a (.dK (putK kvs k v))) s' → Q () s') : wpAny (model X.prog X.w) A (setItem (.ref a) u r) Q E s := by
  have lx := rel.length
  have lp := length_putK kvs k v
  refine wpAny_setItem_pairs (hsz := by omega) (kV_is ru) dd fun h' dd' hs => h _ ?_
  have he : ∃ q, h'.get? a = some q := let ⟨q, _, _, hq, _⟩ := dd'; ⟨q, hq⟩
  exact d_write I mu hs he (dk_new (by omega) hd (rel.put k rv) dd')
/-- o[i] = v of an owned o -/
def rPut (K : PySem.W.Frag) : TSet := fun o i v H Q => ∃ G p ob d di dv, o = .ref p ∧ Same G H ∧ H p = some ob ∧ G p = none ∧ ObR K G ob d ∧ Rp K G i di ∧ Rp K G v dv ∧ oPut d di dv fun d' => ∀ ob', ObR K G ob' d' → Q (upd H p ob')
theorem pset_put (hu : X.A.units + 1 < cLine) : PSet X (rPut X.K) := by
  intro pins s σ H o i v ov iv u Q I ro ri rv h
  obtain ⟨G, p, ob, d, di, dv, rfl, g, hp, gp, ro', rdi, rdv, q⟩ := h
  cases ro
  unfold oPut at q
  cases ro' with
  | lst ra =>
    cases di <;> first | exact q.elim | skip
    dsimp only at q
    split at q
    · rename_i n e
      cases rdi
      have ln := rps_len ra
      refine set_list pins s σ H (.ref p) _ v _ iv u Q I (show RelV (.ref p) (.ref p) from rfl) ri rv ⟨p, _, _, n, rfl, rfl, hp, by rw [ln]; exact e, q _ (.lst ?_)⟩
      have : ∀ {xs : List V} {ds : List D} (n : Nat), RpAll X.K G xs ds → RpAll X.K G (xs.set n v) (ds.set n dv) := by
        intro xs
        induction xs with
        | nil => intro ds n r; cases r; exact .nil
        | cons x xs ih =>
          intro ds n r
          cases r with
          | cons r1 r2 =>
            cases n with
            | zero => exact .cons rdv r2
            | succ n => exact .cons r1 (ih n r2)
      exact this n ra
    · exact q.elim
  | @dK ks xs ds hl ra =>
    dsimp only at q
    split at q
    · rename_i kk e
      obtain ⟨hm, hf, hz, q⟩ := q
      have le := rps_len ra
      rcases kk with k | k
      · have ed := kOf_inl e
        subst ed
        have ey := key_val (H := H) (.fro rdi)
        subst ey
        obtain ⟨_, hd, vs, rel, dd⟩ := dk_of I.hok hp
        exact setK I (by rw [hp]; trivial) hd rel dd (by simp at hz ⊢; omega) ri rv fun s' I' => ⟨_, I', q _ (put_K hl ra rdv)⟩
      · obtain ⟨c, ed⟩ := kOf_inr e
        subst ed
        have hc : c = .mad := of_decide_eq_true hm
        subst hc
        obtain ⟨b, ys, rfl, _, ry, tr⟩ := rp_tup rdi
        have ey := key_vals ry
        subst ey
        have e0 : ks = [] := by
          cases ks with
          | nil => rfl
          | cons q0 ks =>
            cases ra with
            | nil => cases hl
            | cons _ _ =>
              have := List.all_eq_true.mp hf _ List.mem_cons_self
              cases q0 <;> cases this
        subst e0
        have x0 : xs = [] := List.eq_nil_of_length_eq_zero hl.symm
        subst x0
        cases ra
        obtain ⟨hd, dd⟩ := rd0_KT I.hok (.inl hp)
        cases ri
        exact setT hu I (by rw [hp]; trivial) hd .nil dd (by decide) (g _ _ (tr rfl)) rv fun s' I' => ⟨_, I', q _ (put_T (ks := []) (xs := []) (ds := []) rfl .nil rdv)⟩
    · exact q.elim
  | @dT ks xs ds hl ra =>
    dsimp only at q
    split at q
    · rename_i kk e
      obtain ⟨hm, hf, hz, q⟩ := q
      have le := rps_len ra
      rcases kk with k | k
      · have ed := kOf_inl e
        subst ed
        have ey := key_val (H := H) (.fro rdi)
        subst ey
        have e0 : ks = [] := by
          cases ks with
          | nil => rfl
          | cons q0 ks =>
            cases ra with
            | nil => cases hl
            | cons _ _ =>
              have := List.all_eq_true.mp hf _ List.mem_cons_self
              cases k <;> cases this
        subst e0
        have x0 : xs = [] := List.eq_nil_of_length_eq_zero hl.symm
        subst x0
        cases ra
        obtain ⟨hd, dd⟩ := rd0_TK I.hok (.inl hp)
        exact setK I (by rw [hp]; trivial) hd .nil dd (by decide) ri rv fun s' I' => ⟨_, I', q _ (put_K (ks := []) (xs := []) (ds := []) rfl .nil rdv)⟩
      · obtain ⟨c, ed⟩ := kOf_inr e
        subst ed
        have hc : c = .mad := of_decide_eq_true hm
        subst hc
        obtain ⟨b, ys, rfl, _, ry, tr⟩ := rp_tup rdi
        have ey := key_vals ry
        subst ey
        obtain ⟨_, hd, vs, rel, dd⟩ := dt_of I.hok hp
        cases ri
        exact setT hu I (by rw [hp]; trivial) hd rel dd (by simp at hz ⊢; omega) (g _ _ (tr rfl)) rv fun s' I' => ⟨_, I', q _ (put_T hl ra rdv)⟩
    · exact q.elim
end
section
variable {K : PySem.W.Frag} {X : Cx} {n : Nat} {e b o : Expr} {m mb : ME} {pos : Pos}
/-- the owned one at slot i becomes another -/
theorem Rel.chg {σ : L2.St} {G H : Hp} {ρ : Cs} {i : Nat} {p : Addr} {ob : HO} {d d' : D} (R : Rel K σ G H ρ) (hi : ρ[i]? = some (.own d)) (hs : σ[i]? = some (some (.ref p))) (r : ObR K G ob d') : Rel K σ G (upd H p ob) (ρ.set i (.own d')) ∧ Lk n σ G H ρ σ G (upd H p ob) (ρ.set i (.own d')) := by
  obtain ⟨p', o', z1, z2, z3, z4⟩ := R.own i d hi
  rw [hs] at z1
  cases z1
  have lt := (List.getElem?_eq_some_iff.mp hi).1
  have w0 : Ow σ ρ p := ⟨i, d, hi, hs⟩
  refine ⟨⟨fun b u q => (upd_ne (ne_of_none q z3)).trans (R.gh b u q), by rw [List.length_set]; exact R.len, fun j c q => ?_, fun j c q => ?_, fun j l a c c' q q' h h' => ?_⟩, ⟨⟨Same.refl G, fun a u nm q => ?_, fun a u _ _ g _ => g, fun a q => ?_⟩, fun q w => .inl ?_, fun _ _ => rfl⟩⟩
  · rcases set_get q with ⟨_, _, z⟩ | ⟨_, z⟩
    · cases z
    · exact R.fro j c z
  · rcases set_get q with ⟨rfl, _, z⟩ | ⟨ne, z⟩
    · cases z
      exact ⟨p, ob, hs, upd_same, z3, r⟩
    · obtain ⟨p2, o2, y1, y2, y3, y4⟩ := R.own j c z
      exact ⟨p2, o2, y1, (upd_ne (fun w => by subst w; exact ne (R.apart j i p2 c d z hi y1 hs))).trans y2, y3, y4⟩
  · have back : ∀ {j : Nat} {c : D}, (ρ.set i (.own d'))[j]? = some (.own c) → ∃ c0, ρ[j]? = some (.own c0) := fun {j c} q => by
      rcases set_get q with ⟨rfl, _, _⟩ | ⟨_, z⟩
      · exact ⟨d, hi⟩
      · exact ⟨c, z⟩
    obtain ⟨c0, q0⟩ := back q
    obtain ⟨c1, q1⟩ := back q'
    exact R.apart j l a c0 c1 q0 q1 h h'
  · exact (upd_ne (fun z => by subst z; exact nm w0)).trans q
  · by_cases z : a = p
    · subst z; rw [upd_same] at q; cases q
    · rw [upd_ne z] at q; exact q
  · obtain ⟨j, c, y1, y2⟩ := w
    rcases set_get y1 with ⟨rfl, _, _⟩ | ⟨_, z⟩
    · exact ⟨_, d, hi, y2⟩
    · exact ⟨j, c, z, y2⟩
def sPut (i : Nat) (mv mi : ME) : MS := fun E ρ => mv ρ fun dv ρ1 => mOwn i ρ1 fun _ _ => mi ρ1 fun di ρ2 => match ρ2[i]? with
  | some (.own d) => oPut d di dv fun d' => E.nx (ρ2.set i (.own d'))
  | _ => False
theorem ss_put {k i : Nat} {p : Pos} (hK : X.K = K) (hr : Room k X.A) (ho : PE X o (tVar i)) (hv : SE K (fE K) X e m) (hi : SE K (fE K) X b mb)
    (ha : ∀ v, assign (.Subscript o b p) X.env v = (do
      let ov ← holding [v] (eval o X.env)
      let iv ← holding [v, ov] (eval b X.env)
      standAt p
      holding [v, ov, iv] (setItem ov iv v)
      release [v, ov, iv] []) := by intro _; rfl)
    (hs : swapsWithSole [.Subscript o b p] e pos.line X.env = pure false := by rfl) (hw : swappedStores [.Subscript o b p] e X.env = pure none := by rfl)
    (h1 : (assignEach [.Subscript o b p] X.env).map (·.2) = [assign (.Subscript o b p) X.env] := by rfl) : SS K n X (.Assign [.Subscript o b p] e pos) (sPut i m mb) := by
  subst hK
  have hu : X.A.units + 1 < cLine := Room.u1 hr
  constructor
  · intro ρ E E' a _ _ _
    refine hv.mono ρ _ _ fun dv ρ1 => mo_own ρ1 _ _ fun _ _ => hi.mono ρ1 _ _ fun di ρ2 q => ?_
    split at q
    · exact mo_put (fun d => a _) q
    · exact q.elim
  · refine ps_weak (ps_asg hv.pe (pg_sub ho hi.pe (pset_put hu) ha) hs hw h1) fun T σ H ⟨G, ρ, E, R, q, a, _⟩ => ⟨G, ρ, R, hv.mono ρ _ _ (fun dv ρ1 q v G1 H1 R1 l1 rv => ?_) q⟩
    obtain ⟨x, _, hx, _, q⟩ := own_there R1 q
    refine ⟨x, hx, G1, ρ1, R1, hi.mono ρ1 _ _ (fun di ρ2 q iv G2 H2 R2 l2 ri => ?_) q⟩
    split at q
    · rename_i d e2
      obtain ⟨p2, ob, y1, y2, y3, y4⟩ := R2.own i d e2
      rw [hx] at y1
      cases y1
      refine ⟨G2, p2, ob, d, di, dv, rfl, R2.gh, y2, y3, y4, ri, rp_same l2.st.gg rv, mo_put (fun d' q ob' r => ?_) q⟩
      obtain ⟨R3, l3⟩ := Rel.chg (n := n) R2 e2 hx r
      exact a σ G2 _ _ R3 ((l1.trans l2).up.trans l3) q
    · exact q.elim
/-! x.append(e) -/
def sAppend (i : Nat) (mv : ME) : MS := fun E ρ => mOwn i ρ fun d0 _ => (∃ xs, d0 = .list xs) ∧ mv ρ fun dv ρ2 => match ρ2[i]? with
  | some (.own (.list xs)) => xs.length < sizeLine ∧ E.nx (ρ2.set i (.own (.list (xs ++ [dv]))))
  | _ => False
theorem ss_append {i : Nat} {ap p2 : Pos} (hK : X.K = K) (ho : PE X o (tVar i)) (hv : SE K (fE K) X e m) (hbase : attributeBase o "append" X.env (eval o X.env) = eval o X.env := by rfl)
    (hfew : ((backTo p2 (starEach [e] X.env)).all (fun x => !x.1) && (backToKw p2 (keywordEach [] X.env)).all (fun x => x.1.isSome) && decide (([e] : List Expr).length + ([] : List Keyword).length + (if ([] : List Keyword).isEmpty then 0 else 1) < 30)) = true := by rfl)
    (hline : (ap.endLine == p2.line) = true := by rfl) (hs : starEach [e] X.env = (false, eval e X.env) :: starEach [] X.env := by rfl) (hplain : (backTo p2 (starEach [] X.env)).any (·.1) = false := by rfl)
    (hsw : swapsWith (.Call (.Attribute o "append" ap) [e] [] p2) none pos.line X.env = pure false := by rfl) : SS K n X (.Expr (.Call (.Attribute o "append" ap) [e] [] p2) pos) (sAppend i m) := by
  subst hK
  constructor
  · intro ρ E E' a _ _ _
    refine mo_own ρ _ _ fun d0 _ q => ⟨q.1, hv.mono ρ _ _ (fun dv ρ2 q => ?_) q.2⟩
    split at q
    · exact ⟨q.1, a _ q.2⟩
    · exact q.elim
  · refine ps_weak (ps_expr (pe_bm PySem.F.plainAttrs_list PySem.F.slot_list_append PySem.F.type_list_append mt_append ho (pa_cons hv.pe pa_nil hs) hbase hfew hline hs hplain) hsw) fun T σ H ⟨G, ρ, E, R, q, a, _⟩ => ?_
    obtain ⟨x, d0, hx, vx, ⟨xs, rfl⟩, q⟩ := own_there R q
    obtain ⟨p, ys, rfl, rd, _⟩ := vw_list R.gh vx
    refine ⟨_, hx, .inl ⟨rfl, ys, .inl rd⟩, G, ρ, R, hv.mono ρ _ _ (fun dv ρ2 q v G2 H2 R2 l2 rv => ?_) q⟩
    split at q
    · rename_i zs e2
      obtain ⟨p2, ob, y1, y2, y3, y4⟩ := R2.own i _ e2
      rw [hx] at y1
      cases y1
      cases y4 with
      | lst ra =>
        obtain ⟨R3, l3⟩ := Rel.chg (n := n) R2 e2 hx (.lst (rps_app ra (.cons rv .nil)))
        exact ⟨_, _, v, rfl, rfl, y2, by rw [rps_len ra]; exact q.1, a σ G2 _ _ R3 (l2.up.trans l3) q.2⟩
    · exact q.elim
/-! {} -/
def mDNew : ME := fun ρ k => k (.dict []) ρ
theorem se_dnewK : SE K (fF K) X (.Dict [] [] pos) mDNew := by
  refine ⟨fun ρ k k' w => w _ _, pe_weak pe_dnewK fun σ H Q ⟨G, ρ, R, q⟩ p np => ?_⟩
  have st := stp_new (G := G) (o := .dK []) np
  exact q _ G _ (R.pure st (same_new1 R.gh np)) (.pure st) ⟨p, _, rfl, np, fun w => R.old w np, upd_same, R.gh.free np, .dK (ks := []) (xs := []) (ds := []) rfl .nil⟩
/-! texts -/
def mSplit (ma mb : ME) : ME := fun ρ k => ma ρ fun da ρ1 => match da with
  | .str x => mb ρ1 fun db ρ2 => match db with
    | .str y => (y.length == 0) = false ∧ x.length + 2 ≤ sizeLine ∧ k (.list ((Txt.split x y).map .str)) ρ2
    | _ => False
  | _ => False
theorem rps_strs {G : Hp} : ∀ ys : List Str, RpAll K G (ys.map V.str) (ys.map D.str)
  | [] => .nil
  | y :: ys => .cons (.str y) (rps_strs ys)
theorem se_split {a : Expr} {ma : ME} {ap : Pos} (hK : X.K = K) (ha : SE K (fE K) X a ma) (hb : SE K (fE K) X b mb) (hs : starEach [b] X.env = [(false, eval b X.env)] := by rfl) (hbase : attributeBase a "split" X.env (eval a X.env) = eval a X.env := by rfl) (hline : (ap.endLine == pos.line) = true := by rfl) :
    SE K (fF K) X (.Call (.Attribute a "split" ap) [b] [] pos) (mSplit ma mb) := by
  constructor
  · intro ρ k k' w
    refine ha.mono ρ _ _ fun da ρ1 q => ?_
    cases da <;> first | exact q.elim | skip
    refine hb.mono ρ1 _ _ (fun db ρ2 q => ?_) q
    cases db <;> first | exact q.elim | exact ⟨q.1, q.2.1, w _ _ q.2.2⟩
  · refine pe_weak (pe_split ha.pe hb.pe hs hbase hline) fun σ H Q ⟨G, ρ, R, q⟩ => ⟨G, ρ, R, ha.mono ρ _ _ (fun da ρ1 q x G1 H1 R1 l1 rx => ?_) q⟩
    cases da <;> first | exact q.elim | skip
    rename_i sx
    cases rx
    refine ⟨⟨_, rfl⟩, G1, ρ1, R1, hb.mono ρ1 _ _ (fun db ρ2 q y G2 H2 R2 l2 ry => ?_) q⟩
    cases db <;> first | exact q.elim | skip
    rename_i sy
    cases ry
    refine ⟨_, _, rfl, rfl, q.1, q.2.1, fun p np => ?_⟩
    have st := stp_new (G := G2) (o := .lst ((Txt.split sx sy).map V.str)) np
    exact q.2.2 _ G2 _ (R2.pure st (same_new1 R2.gh np)) ((l1.trans l2).trans (.pure st)) ⟨p, _, rfl, (l1.trans l2).st.dom p np, fun w => R2.old w np, upd_same, R2.gh.free np, .lst (rps_strs _)⟩
def strsOf : List D → Option (List Str)
  | [] => some []
  | .str x :: r => (strsOf r).map (x :: ·)
  | _ => none
def seqOf : D → Option (List D)
  | .list ds => some ds
  | .tuple _ ds => some ds
  | _ => none
def mJoin (ma mb : ME) : ME := fun ρ k => ma ρ fun da ρ1 => match da with
  | .str x => mb ρ1 fun db ρ2 => match (seqOf db).bind strsOf with
    | some ys => (ys.map (·.length)).sum + ys.length * x.length ≤ 16777216 ∧ k (.str (Txt.join x ys)) ρ2
    | none => False
  | _ => False
theorem strs_V {G : Hp} : ∀ {xs : List V} {ds : List D} {ys : List Str}, RpAll K G xs ds → strsOf ds = some ys → xs = ys.map V.str
  | _, _, _, .nil, h => by cases h; rfl
  | _, _, _, .cons (d := d) r rs, h => by
    cases d <;> first | cases h; done | skip
    cases r
    obtain ⟨zs, h1, h2⟩ := Option.map_eq_some_iff.mp h
    subst h2
    rw [strs_V rs h1]; rfl
theorem se_join {a : Expr} {ma : ME} {ap : Pos} (hK : X.K = K) (ha : SE K (fE K) X a ma) (hb : SE K (fV K) X b mb) (hs : starEach [b] X.env = [(false, eval b X.env)] := by rfl) (hbase : attributeBase a "join" X.env (eval a X.env) = eval a X.env := by rfl) (hline : (ap.endLine == pos.line) = true := by rfl) :
    SE K (fE K) X (.Call (.Attribute a "join" ap) [b] [] pos) (mJoin ma mb) := by
  subst hK
  constructor
  · intro ρ k k' w
    refine ha.mono ρ _ _ fun da ρ1 q => ?_
    cases da <;> first | exact q.elim | skip
    refine hb.mono ρ1 _ _ (fun db ρ2 q => ?_) q
    split at q
    · exact ⟨q.1, w _ _ q.2⟩
    · exact q.elim
  · refine pe_weak (pe_join ha.pe hb.pe hs hbase hline) fun σ H Q ⟨G, ρ, R, q⟩ => ⟨G, ρ, R, ha.mono ρ _ _ (fun da ρ1 q x G1 H1 R1 l1 rx => ?_) q⟩
    cases da <;> first | exact q.elim | skip
    cases rx
    refine ⟨⟨_, rfl⟩, G1, ρ1, R1, hb.mono ρ1 _ _ (fun db ρ2 q y G2 H2 R2 l2 ry => ?_) q⟩
    split at q
    · rename_i ys e2
      obtain ⟨ds, e3, e4⟩ := Option.bind_eq_some_iff.mp e2
      cases db <;> first | cases e3; done | skip
      · cases e3
        obtain ⟨p, zs, rfl, rd, ra⟩ := vw_list R2.gh ry
        exact ⟨_, p, ys, rfl, rfl, .inl (.inl (by rw [← strs_V ra e4]; exact rd)), q.1, q.2 _ G2 H2 R2 (l1.trans l2) (.str _)⟩
      · cases e3
        obtain ⟨p, zs, rfl, _, sq, ra⟩ := vw_tup R2.gh ry
        exact ⟨_, p, ys, rfl, rfl, .inr (by rw [← strs_V ra e4]; exact sq), q.1, q.2 _ G2 H2 R2 (l1.trans l2) (.str _)⟩
    · exact q.elim
end
end Dl

set_option Elab.async false
set_option linter.all false
set_option maxRecDepth 100000
set_option maxHeartbeats 4000000
namespace Dl
open PySem PySem.Spec PyProof.Rows L2 Br
/-! ### a def that hands back a new list: its caller's own -/
def tSF (K : PySem.W.Frag) (m : MS) : TS := fun T σ H => ∃ G ρ E, Rel K σ G H ρ ∧ m E ρ ∧ ∀ v d σ' G' H' ρ', Rel K σ' G' H' ρ' → Lk 0 σ G H ρ σ' G' H' ρ' → fF K H σ' ρ' G' H' v d → E.rt d ρ' → T.rt v H'
structure SBF (K : PySem.W.Frag) (X : Cx) (sts : List Stmt) (m : MS) : Prop where
  mono : ∀ (ρ : Cs) (E E' : Dn), (∀ d ρ', E.rt d ρ' → E'.rt d ρ') → m E ρ → m E' ρ
  ps : PSs X sts (tSF K m)
section
variable {K : PySem.W.Frag} {X : Cx} {st : Stmt} {sts : List Stmt} {ms mu : MS} {e : Expr} {m : ME} {pos : Pos}
theorem sbf_ret (h : SE K (fF K) X e m) : SBF K X [.Return (some e) pos] (sRet m) :=
  ⟨fun ρ E E' w => h.mono ρ _ _ w, pss_weak (pss_one (ps_ret h.pe)) fun T σ H ⟨G, ρ, E, R, q, b⟩ => ⟨G, ρ, R, h.mono ρ _ _ (fun d ρ1 q v G1 H1 R1 l r => b v d σ G1 H1 ρ1 R1 l r q) q⟩⟩
/-- statements that hand nothing back, then the rest -/
def sSeqF (a b : MS) : MS := fun E ρ => a { nx := b E, rt := fun _ _ => False } ρ
theorem sbf_cons (h : SS K 0 X st ms) (g : SBF K X sts mu) : SBF K X (st :: sts) (sSeqF ms mu) := by
  refine ⟨fun ρ E E' w => h.mono ρ _ _ (fun ρ1 => g.mono ρ1 _ _ w) (fun _ _ z => z) (fun _ z => z) (fun _ z => z), pss_weak (pss_cons h.ps g.ps) fun T σ H ⟨G, ρ, E, R, q, b⟩ => ?_⟩
  refine ⟨G, ρ, _, R, q, fun σ1 G1 H1 ρ1 R1 l1 q1 => ⟨G1, ρ1, E, R1, q1, fun v d σ2 G2 H2 ρ2 R2 l2 f => b v d σ2 G2 H2 ρ2 R2 (l1.trans l2) ?_⟩, fun _ _ _ _ _ _ _ _ _ z => z.elim, fun _ _ _ _ _ _ z => z.elim, fun _ _ _ _ _ _ z => z.elim⟩
  obtain ⟨p, o, e, h0, r⟩ := f
  exact ⟨p, o, e, l1.st.dom p h0, r⟩
abbrev Ff := List D → (D → Prop) → Prop
def spF (K : PySem.W.Frag) (np : Nat) (F : Ff) : Sp := fun vs H Q _ => vs.length = np ∧ ∃ G ds, Same G H ∧ RpAll K G vs ds ∧ F ds (Then K (pF K) G H Q)
structure FnF (P : Program) (w : World) (K : PySem.W.Frag) (mg : Str → Option Value) (base : Heap) (k : Nat) (f : Addr) (fd : FuncData) (ps : List Str) (F : Ff) : Prop where
  ok : FnG P w K mg base CX0 k f fd ps (spF K ps.length F)
  mo : ∀ ds (k k' : D → Prop), (∀ d, k d → k' d) → F ds k → F ds k'
  ln : ∀ ds k, F ds k → ds.length = ps.length
def FofF (np m : Nat) (b : MS) : Ff := fun ds k => ds.length = np ∧ ∃ k0 : D → Prop, (∀ d, k0 d → k d) ∧ b { nx := fun _ => False, rt := fun d _ => k0 d } (ds.map .fro ++ List.replicate m .un)
end
section
variable {P : Program} {w : World} {K : PySem.W.Frag} {mg : Str → Option Value} {base : Heap} {k : Nat} {f : Addr} {fd : FuncData} {ps : List Str}
theorem rel_fro {G H : Hp} (g : Same G H) {vs : List V} {ds : List D} (r : RpAll K G vs ds) : Rel K (vs.map some) G H (ds.map .fro) := by
  have nown : ∀ (i : Nat) (d : D), (ds.map Cell.fro)[i]? ≠ some (.own d) := fun i d z => by
    rw [List.getElem?_map] at z
    cases q : ds[i]? with
    | none => rw [q] at z; cases z
    | some _ => rw [q] at z; cases z
  refine ⟨g, by rw [List.length_map, List.length_map, rps_len r], fun i d z => ?_, fun i d z => (nown i d z).elim, fun i _ _ d _ z => (nown i d z).elim⟩
  rw [List.getElem?_map] at z
  cases q : ds[i]? with
  | none => rw [q] at z; cases z
  | some d' =>
    rw [q] at z
    cases z
    obtain ⟨v, hv, rv⟩ := rps_get' r q
    exact ⟨v, by rw [List.getElem?_map, hv]; rfl, rv⟩
theorem ow_fro {vs : List V} {ds : List D} {p : Addr} {more : L2.St} {un : Cs} (hu : ∀ (i : Nat) (d : D), un[i]? ≠ some (.own d)) : ¬ Ow (vs.map some ++ more) (ds.map .fro ++ un) p := by
  rintro ⟨i, d, z, _⟩
  by_cases hi : i < (ds.map Cell.fro).length
  · rw [List.getElem?_append_left hi, List.getElem?_map] at z
    cases q : ds[i]? with
    | none => rw [q] at z; cases z
    | some _ => rw [q] at z; cases z
  · rw [List.getElem?_append_right (by omega)] at z
    exact hu _ _ z
theorem fn_ofF {x qual : Str} {st : Stmt} {N : List Str} {np m : Nat} {b : MS} (Fu : Fun K x qual st f fd) (S : FnScope N ps (defScope st)) (hp : ps.length = np) (hm : N.length - ps.length = m)
    (body : ∀ (cdv : Value) (Ar : Around) (out : List PySem.Env) (s0 : Shared) (H : Hp) (E : XK), Bare Ar → Room k (Ar.deeper (envOfC qual (defScope st) s0.heap.objs.size f cdv)) →
      SBF K (cxOf CX0 P w K mg base N qual (defScope st) f cdv Ar out s0 H E).nox (defBody st) b) : FnF P w K mg base (k + 1) f fd ps (FofF np m b) := by
  subst hp hm
  refine ⟨okG Fu S (fun vs H Q E h => h.1) fun cdv Ar out s0 H vs Q E hG hr hsp => ?_, fun ds k k' w h => ?_, fun ds k h => h.1⟩
  · obtain ⟨hl, G, ds, g, r, hd, k0, w0, q⟩ := hsp
    have sb := body cdv Ar out s0 H E hG hr
    have R0 := (rel_fro g r).more (N.length - ps.length)
    have e0 : vs.map some ++ List.replicate (N.length - ps.length) none = L2.start N vs := by unfold L2.start; rw [hl]
    have nu : ∀ (i : Nat) (d : D), (List.replicate (N.length - ps.length) Cell.un)[i]? ≠ some (.own d) := fun i d z => by
      rw [List.getElem?_replicate] at z
      split at z <;> cases z
    rw [e0] at R0
    refine ⟨_, sb.ps, G, _, _, R0, q, fun v d σ' G' H' ρ' R' l f hk => ?_⟩
    obtain ⟨p, o, ev, h0, nw, hp, gp, ob⟩ := f
    refine w0 d hk v G' H' R'.gh ⟨l.st.gg, fun a u _ z => l.st.hh a u ?_ z, fun a u _ z => l.st.fr a u ?_ z, l.st.dom⟩ ⟨p, o, ev, h0, hp, gp, ob⟩
    · rw [← e0]; exact ow_fro nu
    · rw [← e0]; exact ow_fro nu
  · obtain ⟨h1, k0, h2, h3⟩ := h
    exact ⟨h1, k0, fun d z => w d (h2 d z), h3⟩
end
section
variable {K : PySem.W.Frag} {X : Cx} {a b : Expr} {es : List Expr} {ma : ME} {pos : Pos}
def mCallF (F : Ff) (ma : MA) : ME := fun ρ k => ma ρ fun ds ρ1 => F ds fun d => k d ρ1
theorem se_callF {F : Ff} {mr : MA} {k j : Nat} {f : Addr} {fd : FuncData} {ps : List Str} {x : Str} {p : Pos} (Fn : FnF X.prog X.w K X.mg X.base j f fd ps F) (hK : X.K = K) (hG : Bare X.A) (hr : Room k X.A) (hj : j ≤ k) (hg : Gl X x) (hm : X.mg x = some (.ref f)) (hk : PySem.W.keepIn K (.ref f) = true) (hb : Binds K fd ps []) (ha : SA K X (a :: es) mr)
    (hdb : (x == ("__debug__" : Str)) = false := by decide) (he : starEach (a :: es) X.env = (false, eval a X.env) :: starEach es X.env := by rfl) (hpl : (backTo pos (starEach es X.env)).any (·.1) = false := by rfl) : SE K (fF K) X (.Call (.Name x p) (a :: es) [] pos) (mCallF F mr) := by
  subst hK
  refine ⟨fun ρ k k' w => ha.mono ρ _ _ fun ds ρ1 => Fn.mo _ _ _ fun d => w d ρ1, pe_weak (pe_callG (E := fun _ _ _ => False) Fn.ok hG (hr.mono hj) hg hm hk hb pass0 ha.pa hdb he hpl) fun σ H Q ⟨G, ρ, R, q⟩ => ⟨G, ρ, R, ha.mono ρ _ _ (fun ds ρ1 q vs G1 H1 R1 l1 rs => ?_) q⟩⟩
  show spF X.K ps.length F (vs ++ []) H1 Q _
  rw [List.append_nil]
  refine ⟨by rw [rps_len rs]; exact Fn.ln _ _ q, G1, ds, R1.gh, rs, Fn.mo _ _ _ (fun d q v G2 H2 gh st pv => ?_) q⟩
  exact q v G2 H2 (R1.pure st gh) (l1.trans (.pure st)) (embF σ ρ ρ1 G H G1 H1 G2 H2 v d R1 l1 pv)
/-! ### slices -/
abbrev MO := Cs → (Option Int → Cs → Prop) → Prop
def pNo : MO := fun ρ k => k none ρ
def pSome (m : ME) : MO := fun ρ k => m ρ fun d ρ1 => match d with
  | .int i => k (some i) ρ1
  | _ => False
def tO (K : PySem.W.Frag) (m : MO) : TO := fun σ H Q => ∃ G ρ, Rel K σ G H ρ ∧ m ρ fun o ρ' => ∀ G' H', Rel K σ G' H' ρ' → Lk 0 σ G H ρ σ G' H' ρ' → Q o H'
structure SO (K : PySem.W.Frag) (X : Cx) (e : Option Expr) (m : MO) : Prop where
  mono : Mo m
  po : PO X e (tO K m)
theorem po_weak {e : Option Expr} {t t' : TO} (h : PO X e t) (w : ∀ σ H Q, t' σ H Q → t σ H Q) : PO X e t' := ⟨fun pins s σ H Q I q => h.run pins s σ H Q I (w σ H Q q)⟩
theorem so_none : SO K X none pNo := ⟨fun _ _ _ w => w _ _, po_weak po_none fun σ H Q ⟨G, ρ, R, q⟩ => q G H R .refl⟩
theorem so_some {e : Expr} {m : ME} (h : SE K (fE K) X e m) : SO K X (some e) (pSome m) := by
  refine ⟨fun ρ k k' w => h.mono ρ _ _ fun d ρ1 q => ?_, po_weak (po_some h.pe) fun σ H Q ⟨G, ρ, R, q⟩ => ⟨G, ρ, R, h.mono ρ _ _ (fun d ρ1 q v G1 H1 R1 l r => ?_) q⟩⟩
  · cases d <;> first | exact q.elim | exact w _ _ q
  · cases d <;> first | exact q.elim | skip
    cases r
    exact ⟨_, rfl, q G1 H1 R1 l⟩
def cutD {α : Type} (xs : List α) (lo hi : Option Int) : List α := (xs.drop (HT.sIx xs.length 0 lo)).take (HT.sIx xs.length xs.length hi - HT.sIx xs.length 0 lo)
def oSlice (d : D) (lo hi : Option Int) (k : D → Prop) : Prop := match d with
  | .list xs => k (.list (cutD xs lo hi))
  | .tuple c xs => k (.tuple (tkAdd c c) (cutD xs lo hi))
  | .str z => z.length ≤ sizeLine ∧ k (.str (cutS z lo hi))
  | _ => False
theorem mo_slice {d : D} {lo hi : Option Int} {k k' : D → Prop} (w : ∀ d, k d → k' d) (h : oSlice d lo hi k) : oSlice d lo hi k' := by
  cases d <;> first | exact h.elim | exact w _ h | exact ⟨h.1, w _ h.2⟩
theorem rps_take {G : Hp} : ∀ (n : Nat) {xs : List V} {ds : List D}, RpAll K G xs ds → RpAll K G (xs.take n) (ds.take n)
  | 0, _, _, _ => .nil
  | _ + 1, _, _, .nil => .nil
  | n + 1, _, _, .cons a r => .cons a (rps_take n r)
theorem rps_drop {G : Hp} : ∀ (n : Nat) {xs : List V} {ds : List D}, RpAll K G xs ds → RpAll K G (xs.drop n) (ds.drop n)
  | 0, _, _, r => r
  | _ + 1, _, _, .nil => .nil
  | n + 1, _, _, .cons _ r => rps_drop n r
theorem rps_cut {G : Hp} {xs : List V} {ds : List D} (r : RpAll K G xs ds) (lo hi : Option Int) : RpAll K G (cutV xs lo hi) (cutD ds lo hi) := by
  unfold cutV cutD
  rw [rps_len r]
  exact rps_take _ (rps_drop _ r)
def rSlO (K : PySem.W.Frag) : V → Option Int → Option Int → Hp → VK → Prop := fun x lo hi H Q => ∃ G d, Same G H ∧ Vw K G H x d ∧ oSlice d lo hi (Then K (pE K) G H Q)
theorem slr_data : SlR X (rSlO X.K) := by
  intro pins s σ H x v vl vu lo hi sl Q I rx hs pl pu h
  obtain ⟨G, d, g, hx, q⟩ := h
  cases d with
  | list xs =>
    obtain ⟨p, ys, rfl, rd, ra⟩ := vw_list g hx
    exact sl_list pins s σ H _ v vl vu lo hi sl Q I rx hs pl pu ⟨p, ys, rfl, .inl rd, fun n nn => newG g q nn (.lst (.inl upd_same) (rps_same (same_upd (g.free nn)) (rps_cut ra lo hi)))⟩
  | tuple c xs =>
    obtain ⟨p, ys, rfl, r0, sq, ra⟩ := vw_tup g hx
    refine sl_tupA pins s σ H _ v vl vu lo hi sl Q I rx hs pl pu ⟨p, ys, rfl, sq, fun wh => ?_, fun _ n nn => newG g q nn (rp_any (.tup upd_same (rps_same (same_upd (g.free nn)) (rps_cut ra lo hi))))⟩
    have e : cutD xs lo hi = xs := by
      unfold cutD
      rw [rps_len ra] at wh
      rw [wh.1, wh.2, Nat.sub_zero, List.drop_zero, List.take_length]
    have q : Then X.K (pE X.K) G H Q (.tuple (tkAdd c c) (cutD xs lo hi)) := q
    rw [e] at q
    exact stay g q (rp_andL r0)
  | str z =>
    have ex := vw_str hx
    subst ex
    exact sl_str pins s σ H _ v vl vu lo hi sl Q I rx hs pl pu ⟨z, rfl, q.1, stay g q.2 (.str _)⟩
  | _ => exact q.elim
def mSlice (ma : ME) (ml mh : MO) : ME := fun ρ k => ma ρ fun da ρ1 => ml ρ1 fun lo ρ2 => mh ρ2 fun hi ρ3 => oSlice da lo hi fun d => k d ρ3
theorem se_slice {lo hi : Option Expr} {ml mh : MO} {p2 : Pos} (hK : X.K = K) (ha : SE K (fE K) X a ma) (hl : SO K X lo ml) (hh : SO K X hi mh) : SE K (fE K) X (.Subscript a (.Slice lo hi none p2) pos) (mSlice ma ml mh) := by
  subst hK
  refine ⟨fun ρ k k' w => ha.mono ρ _ _ fun da ρ1 => hl.mono ρ1 _ _ fun l ρ2 => hh.mono ρ2 _ _ fun h ρ3 => mo_slice fun d => w d ρ3, pe_weak (pe_slice slr_data ha.pe hl.po hh.po) fun σ H Q ⟨G, ρ, R, q⟩ => ⟨G, ρ, R, ha.mono ρ _ _ (fun da ρ1 q x G1 H1 R1 l1 rx => ?_) q⟩⟩
  refine ⟨G1, ρ1, R1, hl.mono ρ1 _ _ (fun l ρ2 q G2 H2 R2 l2 => ⟨G2, ρ2, R2, hh.mono ρ2 _ _ (fun h ρ3 q G3 H3 R3 l3 => ?_) q⟩) q⟩
  refine ⟨G3, da, R3.gh, .fro (rp_same (l2.trans l3).st.gg rx), mo_slice (fun d q v G4 H4 gh st pv => ?_) q⟩
  exact q v G4 H4 (R3.pure st gh) (((l1.trans l2).trans l3).trans (.pure st)) pv
/-! ### list(d): its keys -/
def oKeys : O1 := fun a k => match a with
  | .dict ps => k (.list (ps.map (·.1)))
  | _ => False
theorem mo_keys : Mo1 oKeys := fun a k k' w h => by cases a <;> first | exact h.elim | exact w _ h
theorem rps_keys {G : Hp} : ∀ ks : List Key, RpAll K G (ks.map kV) (ks.map keyD)
  | [] => .nil
  | .inl i :: ks => .cons (.int i) (rps_keys ks)
  | .inr x :: ks => .cons (.str x) (rps_keys ks)
theorem zipk : ∀ {ks : List Key} {xs : List V}, ks.length = xs.length → (ks.zip xs).map (fun kv => kV kv.1) = ks.map kV
  | [], _, _ => rfl
  | _ :: _, [], h => by cases h
  | k :: ks, x :: xs, h => by rw [List.zip_cons_cons, List.map_cons, zipk (Nat.succ.inj h)]; rfl
/-- tuples that are tracked are taken into G -/
def withT (G H : Hp) : Hp := fun a => match H a with
  | some (.tup xs) => some (.tup xs)
  | _ => G a
theorem withT_same {G H : Hp} (g : Same G H) : Same G (withT G H) ∧ Same (withT G H) H ∧ Stp Pure G H (withT G H) H := by
  have h1 : Same G (withT G H) := fun b o e => by
    unfold withT
    rw [g b o e]
    cases o <;> first | rfl | exact e
  have h2 : Same (withT G H) H := fun b o e => by
    unfold withT at e
    cases q : H b with
    | none =>
      rw [q] at e
      dsimp only at e
      rw [g b o e] at q
      cases q
    | some u =>
      rw [q] at e
      cases u <;> first | exact e | (dsimp only at e; have z := g b o e; rw [q] at z; exact z)
  refine ⟨h1, h2, h1, fun a o _ e => e, fun a o _ e g0 t => ?_, fun a e => e⟩
  unfold withT
  rw [e]
  cases o <;> first | exact g0 | cases t
theorem withT_at {G H : Hp} {a : Addr} {xs : List V} (e : H a = some (.tup xs)) : withT G H a = some (.tup xs) := by
  unfold withT
  rw [e]
theorem se_list_dict {p : Pos} (hK : X.K = K) (hc : X.calm = true) (hg : Gl X "list") (hm : X.mg "list" = none) (ha : SE K (fV K) X a ma) (hs : starEach [a] X.env = [(false, eval a X.env)] := by rfl) (hpl : (backTo pos (starEach [] X.env)).any (·.1) = false := by rfl) :
    SE K (fF K) X (.Call (.Name "list" p) [a] [] pos) (mUn oKeys ma) := by
  subst hK
  refine se_t1 (T := "list") (π := pF X.K) (r := fun xs H Q => (∃ (b : Addr) (kvs : List (Key × V)), xs = [.ref b] ∧ Rd H b (.dK kvs) ∧ ∀ p, H p = none → Q (.ref p) (upd H p (.lst (kvs.map fun kv => kV kv.1)))) ∨
      (∃ d kvs, xs = [V.ref d] ∧ Rd H d (.dT kvs) ∧ ∀ p bs, H p = none → IsKeys H kvs bs → Q (.ref p) (upd H p (.lst (bs.map V.ref))))) (fun pins s σ H xs us Q I r h => ?_) (fun y H Q h => ?_) mo_keys embF hg hm (by decide +kernel) ha hs (by decide) (by decide) hpl
  · rcases h with h | h
    · exact call_listD hc pins s σ H xs us Q I r h
    · exact call_list_dT hc pins s σ H xs us Q I r h
  obtain ⟨G, d, g, hx, q⟩ := h
  cases d <;> first | exact q.elim | skip
  obtain ⟨b, rfl, c⟩ := vw_dict g hx
  rcases c with ⟨ks, xs, ds, rd, hl, ra, rfl⟩ | ⟨ks, xs, ds, rd, hl, ra, rfl⟩
  · refine .inl ⟨b, _, rfl, rd, fun n nn => newF g q nn ?_⟩
    have le := rps_len ra
    rw [show ((ks.map keyD).zip ds).map (·.1) = ks.map keyD from List.map_fst_zip (by simp; omega), show (ks.zip xs).map (fun kv => kV kv.1) = ks.map kV from zipk hl]
    exact .lst (rps_keys ks)
  · refine .inr ⟨b, _, rfl, rd, fun n bs nn ik => ?_⟩
    have le := rps_len ra
    obtain ⟨h1, h2, h3⟩ := withT_same g
    have kk : ∀ {ks : List (List Key)} {xs : List V} {bs : List Addr}, ks.length = xs.length → IsKeys H (ks.zip xs) bs → RpAll X.K (withT G H) (bs.map V.ref) (ks.map fun k => D.tuple .mad (k.map keyD)) := by
      intro ks
      induction ks with
      | nil => intro xs bs _ h; cases h; exact .nil
      | cons k ks ih =>
        intro xs bs hl h
        cases xs with
        | nil => cases hl
        | cons x xs =>
          cases h with
          | cons e t => exact .cons (.tup (withT_at e) (rps_keys k)) (ih (Nat.succ.inj hl) t)
    have q : Then X.K (pF X.K) G H Q (.list (((ks.map fun k => D.tuple .mad (k.map keyD)).zip ds).map (·.1))) := q
    rw [show ((ks.map fun k => D.tuple .mad (k.map keyD)).zip ds).map (·.1) = ks.map fun k => D.tuple .mad (k.map keyD) from List.map_fst_zip (by simp; omega)] at q
    exact q _ (withT G H) _ (same_new1 h2 nn) (h3.trans (stp_new nn)) ⟨n, _, rfl, nn, upd_same, h2.free nn, .lst (kk hl ik)⟩
/-! ### d.pop(key) of an owned dict, the key there -/
def dropKs (ps : List (D × D)) (k : Key ⊕ List Key) : List (D × D) := ps.filter fun p => decide (kOf p.1 ≠ some k)
theorem drop_T {G : Hp} {k : List Key} : ∀ {ks : List (List Key)} {xs : List V} {ds : List D}, ks.length = xs.length → RpAll K G xs ds →
    ∃ (qs : List (List Key)) (ys : List V) (es : List D), dropK (ks.zip xs) k = qs.zip ys ∧ qs.length = ys.length ∧ RpAll K G ys es ∧ dropKs ((ks.map fun k => D.tuple .mad (k.map keyD)).zip ds) (.inr k) = (qs.map fun k => D.tuple .mad (k.map keyD)).zip es
  | [], xs, ds, hl, r => by
    cases xs with
    | nil => exact ⟨[], [], [], rfl, rfl, .nil, rfl⟩
    | cons _ _ => cases hl
  | q :: ks, _, _, hl, .nil => by cases hl
  | q :: ks, x :: xs, e :: ds, hl, .cons r rs => by
    obtain ⟨qs, ys, es, h1, h2, h3, h4⟩ := drop_T (k := k) (ks := ks) (Nat.succ.inj hl) rs
    unfold dropK dropKs at *
    by_cases z : q = k
    · refine ⟨qs, ys, es, ?_, h2, h3, ?_⟩
      · rw [List.zip_cons_cons, List.filter_cons_of_neg (by simp [z])]
        exact h1
      · rw [List.map_cons, List.zip_cons_cons, List.filter_cons_of_neg (by simp only [kOf_T]; simp [z])]
        exact h4
    · refine ⟨q :: qs, x :: ys, e :: es, ?_, congrArg (· + 1) h2, .cons r h3, ?_⟩
      · rw [List.zip_cons_cons, List.filter_cons_of_pos (by simp [z]), h1]; rfl
      · rw [List.map_cons, List.zip_cons_cons, List.filter_cons_of_pos (by simp only [kOf_T]; simp [z]), h4]; rfl
def sDPop (i : Nat) (mk : ME) : MS := fun E ρ => mOwn i ρ fun d0 _ => (∃ ps, d0 = .dict ps) ∧ mk ρ fun dk ρ2 => match ρ2[i]? with
  | some (.own (.dict ps)) => match kOf dk with
    | some (.inr k) => (dLook ps dk).isSome = true ∧ E.nx (ρ2.set i (.own (.dict (dropKs ps (.inr k)))))
    | _ => False
  | _ => False
/-- what is asked of the values -/
def rPopD (K : PySem.W.Frag) (x y : V) (H : Hp) (Q : VK) : Prop := ∃ G p ob ps dk k, x = .ref p ∧ Same G H ∧ H p = some ob ∧ G p = none ∧ ObR K G ob (.dict ps) ∧ Rp K G y dk ∧ kOf dk = some (.inr k) ∧ (dLook ps dk).isSome = true ∧
  ∀ v ob', ObR K G ob' (.dict (dropKs ps (.inr k))) → Q v (upd H p ob')
theorem pop_run {pins : List (Addr × Obj)} {σ : L2.St} {H : Hp} {s : Shared} {Q : VK} {x y : V} {u : Value} {p : Addr} (hu : X.A.units + 1 < cLine) (I : Inv X pins σ H s) (h : rPopD X.K x y H Q) (ex : x = .ref p) (ry : RelV y u) :
    wpAny (model X.prog X.w) X.A (call (.builtin "dict.pop") [.ref p, u]) (EP X pins σ Q) X.xe s := by
  subst ex
  obtain ⟨G, p', ob, ps, dk, k, e, g, hp, gp, ro, rk, ek, hs, q⟩ := h
  cases e
  obtain ⟨c, ed⟩ := kOf_inr ek
  subst ed
  obtain ⟨b, ys, rfl, sq, rr, _⟩ := rp_tup rk
  have ey := key_vals rr
  subst ey
  cases ry
  have isk := key_sq I (sqT_same g sq)
  have lk : dLook ps (.tuple c (k.map keyD)) = look kOf (.inr k) ps := by unfold dLook; rw [ek]
  rw [lk] at hs
  cases ro with
  | @dT ks xs ds hl ra =>
    obtain ⟨z, hd, zs, rel, dd⟩ := dt_of I.hok hp
    have lz := Paired.length rel
    refine call_meetsIn PySem.F.slot_dict_pop dd.typeIs PySem.F.entry_dict_pop (PySem.F.args_dict_pop_2 _ _) (meetsH_dict_pop (tupleKind (mixKind X.prog X.w)) p b hd [] (.inl rfl)) ⟨tupleKind_room_in1 hu, k, zs, isk, dd, by omega, fun at' hat h' dd' hsb => ?_, fun no tk => ?_⟩
    · have r := rel.val k
      rw [hat] at r
      obtain ⟨v0, ev, rv⟩ : ∃ v0, valV (ks.zip xs) k = some v0 ∧ RelV v0 at'.2 := by
        cases ev : valV (ks.zip xs) k with
        | none => rw [ev] at r; exact (show False from r).elim
        | some v0 => rw [ev] at r; exact ⟨v0, rfl, r⟩
      obtain ⟨o, es, ep, hq, h2, h3, h4, _, h5⟩ := dd'
      have lw : withoutH zs k = DT.dropH zs k := rfl
      obtain ⟨qs, ys, es', e1, e2, e3, e4⟩ := drop_T (k := k) hl ra
      refine ⟨v0, upd H p (.dT (dropK (ks.zip xs) k)), d_write I (by rw [hp]; trivial) hsb ⟨o, hq⟩ ⟨Nat.le_trans (dropK_le _ k) z, hd, _, (L2.DX.KT_drop k rel).keeps fun c ys ec => ?_, o, es, ep, hq, h2, h3, h4, h5⟩, rv, q v0 _ (by rw [e1, e4]; exact .dT e2 e3)⟩
      rw [upd_ne (ne_of ec hp (fun z => nomatch z))]
      exact ec
    · exfalso
      have r := rel.val k
      rw [no] at r
      rcases look_T (k := k) hl ra with ⟨v, e, h1, h2, h3⟩ | ⟨h1, h2⟩
      · rw [h1] at r; exact r
      · rw [h2] at hs; cases hs
  | @dK ks xs ds hl ra =>
    exfalso
    have : ∀ {ks : List Key} {ds : List D}, look kOf (.inr k) ((ks.map keyD).zip ds) = none := by
      intro ks
      induction ks with
      | nil => intro ds; rfl
      | cons q ks ih =>
        intro ds
        cases ds with
        | nil => rfl
        | cons d ds =>
          show (if kOf (keyD q) = some (.inr k) then some d else look kOf (.inr k) ((ks.map keyD).zip ds)) = none
          rw [kOf_D, if_neg (fun z => by cases z)]
          exact ih
    rw [this] at hs
    cases hs
def tPopD (K : PySem.W.Frag) (td ty : TE) : TE := fun σ H Q => td σ H fun x H1 => (∃ a, x = .ref a ∧ IsD H1 a) ∧ ty σ H1 fun y H2 => rPopD K x y H2 Q
theorem pe_popD {o e : Expr} {apos cpos : Pos} {td ty : TE} (hu : X.A.units + 1 < cLine) (ho : PE X o td) (he : PE X e ty) (m : M1 X o "pop" apos e cpos) : PE X (.Call (.Attribute o "pop" apos) [e] [] cpos) (tPopD X.K td ty) := by
  constructor
  intro pins s σ H Q I h
  refine wpAny_Call_method m.base m.few m.line PySem.F.plainAttrs_dict PySem.F.slot_dict_pop PySem.F.type_dict_pop (thn (ho.run pins s σ H _ I h) fun u s1 hh => ?_)
  obtain ⟨x, H1, I1, rx, ⟨p, ex, dd⟩, q1⟩ := hh
  subst ex
  obtain rfl : u = Value.ref p := rx
  obtain ⟨t1, t2, _⟩ := isD_at I1 dd
  refine ⟨t1, t2, ?_⟩
  rw [m.trees]
  refine Calls.callWith_builtin rfl (Calls.evalArgs_plain (Calls.spliced_cons (thn (he.run pins s1 σ H1 _ I1 q1) fun iv s2 hh2 => Calls.spliced_nil ?_)))
  obtain ⟨y, H2, I2, ry, q2⟩ := hh2
  exact pop_run hu I2 q2 rfl ry
theorem ss_dpop {n i k : Nat} {o e : Expr} {m : ME} {ap p2 : Pos} (hK : X.K = K) (hr : Room k X.A) (ho : PE X o (tVar i)) (hv : SE K (fE K) X e m) (hm : M1 X o "pop" ap e p2 := by exact ⟨rfl, rfl, rfl, rfl⟩)
    (hsw : swapsWith (.Call (.Attribute o "pop" ap) [e] [] p2) none pos.line X.env = pure false := by rfl) : SS K n X (.Expr (.Call (.Attribute o "pop" ap) [e] [] p2) pos) (sDPop i m) := by
  subst hK
  constructor
  · intro ρ E E' w _ _ _
    refine mo_own ρ _ _ fun d0 _ q => ⟨q.1, hv.mono ρ _ _ (fun dv ρ2 q => ?_) q.2⟩
    split at q
    · split at q
      · exact ⟨q.1, w _ q.2⟩
      · exact q.elim
    · exact q.elim
  · refine ps_weak (ps_expr (pe_popD (Room.u1 hr) ho hv.pe hm) hsw) fun T σ H ⟨G, ρ, E, R, q, w, _⟩ => ?_
    obtain ⟨x, d0, hx, vx, ⟨ps, rfl⟩, q⟩ := own_there R q
    refine ⟨_, hx, vw_isD R.gh vx, G, ρ, R, hv.mono ρ _ _ (fun dk ρ2 q y G2 H2 R2 l2 ry => ?_) q⟩
    split at q
    · rename_i zs e2
      split at q
      · rename_i kk e3
        obtain ⟨p2, ob, y1, y2, y3, y4⟩ := R2.own i _ e2
        rw [hx] at y1
        cases y1
        refine ⟨G2, p2, ob, zs, dk, kk, rfl, R2.gh, y2, y3, y4, ry, e3, q.1, fun v ob' r => ?_⟩
        obtain ⟨R3, l3⟩ := Rel.chg (n := n) R2 e2 hx r
        exact w σ G2 _ _ R3 (l2.up.trans l3) q.2
      · exact q.elim
    · exact q.elim
end
end Dl

set_option Elab.async false
set_option linter.all false
set_option maxRecDepth 100000
set_option maxHeartbeats 4000000
namespace Dl
open PySem PySem.Spec PyProof.Rows L2 Br
section
variable {K : PySem.W.Frag} {X : Cx} {a : Expr} {ma : ME} {pos : Pos}
/-! ### sorted, of pairs (text, number) -/
theorem perm_rps {G : Hp} {us' us : List V} (p : us'.Perm us) : ∀ {ds : List D}, RpAll K G us ds → ∃ ds', ds'.Perm ds ∧ RpAll K G us' ds' := by
  induction p with
  | nil => intro ds r; exact ⟨ds, .refl _, r⟩
  | cons x _ ih =>
    intro ds r
    cases r with
    | cons r rs =>
      obtain ⟨ds', p', r'⟩ := ih rs
      exact ⟨_ :: ds', p'.cons _, .cons r r'⟩
  | swap x y l =>
    intro ds r
    cases r with
    | cons r1 r2 => cases r2 with
      | cons r2 r3 => exact ⟨_ :: _ :: _, List.Perm.swap _ _ _, .cons r2 (.cons r1 r3)⟩
  | trans _ _ ih1 ih2 =>
    intro ds r
    obtain ⟨d1, p1, r1⟩ := ih2 r
    obtain ⟨d2, p2, r2⟩ := ih1 r1
    exact ⟨d2, p2.trans p1, r2⟩
def isPr : D → Bool
  | .tuple _ [.str _, .int _] => true
  | _ => false
def prOf : D → Str × Int
  | .tuple _ [.str x, .int i] => (x, i)
  | _ => (Str.empty, 0)
theorem isPr_at {d : D} (h : isPr d = true) : ∃ c x i, d = .tuple c [.str x, .int i] ∧ prOf d = (x, i) := by
  unfold isPr at h
  split at h
  · exact ⟨_, _, _, rfl, rfl⟩
  · cases h
theorem pr_name {G H : Hp} (g : Same G H) {v : V} {d : D} (r : Rp K G v d) (h : isPr d = true) : NameAt K H v (prOf d) := by
  obtain ⟨c, x, i, rfl, e⟩ := isPr_at h
  rw [e]
  obtain ⟨b, ys, rfl, sq, rr, _⟩ := rp_tup r
  obtain ⟨y, z, rfl, r1, r2⟩ := rps2 rr
  cases r1
  cases r2
  exact ⟨b, rfl, sqT_same g sq⟩
def oSorted_pairs : O1 := fun a k => match a with
  | .list ds => ds.all isPr = true ∧ ∀ ds' : List D, ds'.Perm ds → ds'.Pairwise (fun x y => ltN (prOf y) (prOf x) = false) → k (.list ds')
  | _ => False
theorem mo_sortedP : Mo1 oSorted_pairs := fun a k k' w h => by cases a <;> first | exact h.elim | exact ⟨h.1, fun ds' p q => w _ (h.2 ds' p q)⟩
theorem name_inj {pins : List (Addr × Obj)} {σ : L2.St} {H : Hp} {s : Shared} {v : V} {n m : Str × Int} (I : Inv X pins σ H s) (h : NameAt X.K H v n) (k : NameAt X.K H v m) : n = m := by
  obtain ⟨b, rfl, h⟩ := h
  obtain ⟨c, e, k⟩ := k
  cases e
  have := kVs_inj (I.tuple_inj h k)
  unfold nkeys at this
  cases n
  cases m
  simp at this
  rw [this.1, this.2]
theorem callr_sortedP : CallR X (.builtin "sorted") (fun xs H Q => ∃ x, xs = [x] ∧ rO1 X.K (pF X.K) oSorted_pairs x H Q) := by
  intro pins s σ H xs us Q I r h
  obtain ⟨x, rfl, G, d, g, hx, q⟩ := h
  cases d <;> first | exact q.elim | skip
  rename_i ds
  obtain ⟨p, vs, rfl, rd, ra⟩ := vw_list g hx
  obtain ⟨hall, q⟩ := q
  have nm : ∀ {vs : List V} {ds : List D}, RpAll X.K G vs ds → ds.all isPr = true → ∀ u ∈ vs, ∃ n, NameAt X.K H u n := by
    intro vs
    induction vs with
    | nil => intro ds _ _ u hu; cases hu
    | cons v vs ih =>
      intro ds r h u hu
      cases r with
      | cons r1 r2 =>
        rw [List.all_cons, Bool.and_eq_true] at h
        rcases List.mem_cons.mp hu with z | z
        · subst z; exact ⟨_, pr_name g r1 h.1⟩
        · exact ih r2 h.2 u z
  refine cr_sortedN pins s σ H _ us Q I r ⟨p, vs, nameOf X.K H, rfl, .inl rd, fun u hu => ?_, fun us' n pm pw nn => ?_⟩
  · obtain ⟨m, hm⟩ := nm ra hall u hu
    exact nameOf_at hm
  · obtain ⟨ds', pd, rs'⟩ := perm_rps pm ra
    have hall' : ds'.all isPr = true := List.all_eq_true.mpr fun d hd => List.all_eq_true.mp hall d (pd.mem_iff.mp hd)
    have mp : ∀ {vs : List V} {ds : List D}, RpAll X.K G vs ds → ds.all isPr = true → ds.map prOf = vs.map (nameOf X.K H) := by
      intro vs
      induction vs with
      | nil => intro ds r _; cases r; rfl
      | cons v vs ih =>
        intro ds r h
        cases r with
        | cons r1 r2 =>
          rw [List.all_cons, Bool.and_eq_true] at h
          have e := pr_name g r1 h.1
          rw [List.map_cons, List.map_cons, ih r2 h.2, name_inj I e (nameOf_at e)]
    have em := mp rs' hall'
    have pw1 : (us'.map (nameOf X.K H)).Pairwise (fun x y => ltN y x = false) := List.pairwise_map.mpr pw
    rw [← em] at pw1
    exact newF g (q ds' pd (List.pairwise_map.mp pw1)) nn (.lst rs')
theorem se_sorted_pairs {k : Nat} {p : Pos} (hK : X.K = K) (hr : Room k X.A) (hg : Gl X "sorted") (hm : X.mg "sorted" = none) (ha : SE K (fV K) X a ma) (hs : starEach [a] X.env = [(false, eval a X.env)] := by rfl) (hpl : (backTo pos (starEach [] X.env)).any (·.1) = false := by rfl) :
    SE K (fF K) X (.Call (.Name "sorted" p) [a] [] pos) (mUn oSorted_pairs ma) := by
  subst hK
  exact se_b1 (id := "sorted") callr_sortedP (fun y H Q h => ⟨y, rfl, h⟩) mo_sortedP embF hg hm (by decide +kernel) ha hs (by decide) (by decide) hpl
/-! ### repr of plain things -/
def showD : D → Option Str
  | .none => some "None"
  | .bool b => some (if b then "True" else "False")
  | .str x => some (PyData.shown (.str x))
  | .int i => if i.natAbs.log2 < 1920 then some (PyData.shown (.int i)) else none
  | _ => none
end
end Dl

set_option Elab.async false
set_option linter.all false
set_option maxRecDepth 100000
set_option maxHeartbeats 4000000
namespace Dl
open PySem PySem.Spec PyProof.Rows L2 Br
/-! ### dict(t) of a tuple of pairs -/
theorem tuple_keys_none : typeLookup (.type "tuple") "keys" = pure none := am_miss_of_fast (by first | decide +kernel | rfl)
section
variable {prog : Program} {w : World} {A : Around} {E : Value → Shared → Prop}
theorem miss_tuple {s : Shared} {a : Addr} {o : Obj} {xs : Array Value} {k : Nat} {Q : Option Value → Shared → Prop} (hx : s.heap.get? a = some o) (hc : o.cls = .type "tuple") (hdat : o.data = .seq xs k) (hd : o.dict = none) (hA : A.handled = none)
    (h : ∀ h' tk, (∀ b ob, s.heap.get? b = some ob → h'.get? b = some ob) → Q none { s with heap := h', toks := tk }) : wpAny (model prog w) A (getAttr? (.ref a) "keys") Q E s := by
  rcases o with ⟨c, dct, dat, sl⟩
  simp only at hc hdat hd
  subst hc hdat hd
  rcases s with ⟨hp, g, d, tk, os⟩
  have hT : ∀ tk', (⟨hp, g, d, tk', os⟩ : Shared).TypeIs (.ref a) "tuple" := fun _ => ⟨_, hx, rfl⟩
  have none_there := tuple_keys_none
  have other : (["__module__", "__name__", "__qualname__", "__doc__", "__annotations__"] : List Str).contains "keys" = false := by decide +kernel
  have room : ("keys" : Str).length + 100 ≤ sizeLine := by first | size_fits | decide +kernel
  have g1 := sub_AttributeError
  have g3 := PySem.F.slot_tuple_getattribute.lookup
  have g4 := PySem.F.slot_tuple_getattribute.bind (.ref a)
  have g5 := am_tuple_getattr_none
  unfold getAttr? getAttrBy? getAttrBy
  repeat (any_goals (first | assumption | exact hT _ | ((with_reducible show wpAny _ _ (call (Value.builtin "tuple.__getattribute__") _ _) _ _ _); refine call_meets PySem.F.slot_tuple_getattribute (hT _) am_entry_tuple_getattribute (PySem.F.args_tuple_getattribute_2 _ _) (meets_getattribute_miss_tuple a xs k sl "keys" _ none_there other room) ⟨hx, hA, fun h' tk' e hx' => ?_⟩) | wp_step))
  obtain ⟨t', u', he⟩ := hx'.there
  show wpAny _ _ (getattributeRaised _ _ _ _ _ _ _) _ _ _
  unfold getattributeRaised
  repeat (any_goals (first | assumption | wp_step))
  all_goals first | exact h _ _ hx'.keeps | (dsimp only; repeat (any_goals (first | assumption | exact h _ _ hx'.keeps | wp_step)))
/-- the pairs of a tuple, put one behind the other -/
theorem pairs_loop {R : Result → Shared → Prop} {S J l : Addr} {items : Array Value} {res : Value} (calm : A.handled = none) (nlJ : l ≠ J) (nSJ : S ≠ J) (nSl : S ≠ l) :
    ∀ (todo : List (Key × Value)) (i : Nat) (acc : List (Key × Value)) (ix : Int) (t : Tok) (s : Shared), items.size = i + todo.length → acc.length + todo.length ≤ sizeLine →
      (∀ (j : Nat) (q : Key × Value), todo[j]? = some q → ∃ (b : Addr) (u : Value), items[i + j]? = some (.ref b) ∧ b ≠ S ∧ b ≠ J ∧ IsTup s.heap b #[u, q.2] ∧ keyIs q.1 u = true) →
      s.heap.IsTupleIter J l i → s.heap.IsTuple l items → s.heap.DictOf (mixKind prog w) S acc →
      (∀ h' tk, h'.DictOf (mixKind prog w) S (merged acc todo) → (∀ b o, b ≠ S → b ≠ J → s.heap.get? b = some o → h'.get? b = some o) → R (.ok (.ret res)) { s with heap := h', toks := tk }) →
      codeAny (model prog w) A (.builtin "dict.update.loop" ⟨[.ref S, .ref J, .int ix t, res], []⟩) R s := by
  intro todo
  induction todo with
  | nil =>
    intro i acc ix t s size _ _ it lt dd fin
    refine codeAny_builtin ud_entry (?_ : _)
    rw [Around.under_plainId ud_plain]
    show wpAny _ A.in1 (pyNext (.ref J) >>= _) _ _ s
    have past : items[i]? = none := Array.getElem?_eq_none (by simp at size; omega)
    refine wpAny_bind (wpAny_pyNext_tuple_end (A := A.in1) calm it lt past fun h' ext => ?_)
    show wpAny _ A.in1 (Builtin.Dict.addKeywords S [] >>= _) _ _ (_ : Shared)
    refine wpAny_bind (wpAny_pure (wpAny_pure ?last))
    exact fin h' s.toks (dd.extBut ext nSJ) fun b o _ nb e => ext b o nb e
  | cons q todo ih =>
    intro i acc ix t s size room prs it lt dd fin
    obtain ⟨b, u, at_b, nbS, nbJ, tup_b, is_k⟩ := prs 0 q rfl
    rw [List.length_cons] at size room
    refine codeAny_builtin ud_entry (?_ : _)
    rw [Around.under_plainId ud_plain]
    show wpAny _ A.in1 (pyNext (.ref J) >>= _) _ _ s
    refine wpAny_bind (wpAny_pyNext_tuple_item (x := .ref b) it lt (by simpa using at_b) fun h1 it1 same1 => ?_)
    have tup1 : IsTup h1 b #[u, q.2] := tup_b.extBut same1.extBut nbJ
    have lt1 : h1.IsTuple l items := lt.extBut same1.extBut nlJ
    have dd1 : h1.DictOf (mixKind prog w) S acc := dd.extBut same1.extBut nSJ
    obtain ⟨o, at_o, cls_o, n, dat_o⟩ := id tup1
    show wpAny _ A.in1 (holding [Value.ref b] _ >>= _) _ _ (_ : Shared)
    refine wpAny_bind (wpAny_holding (wpAny_bind (wpAny_tryCatch ?_)))
    unfold Builtin.Dict.pairItems
    refine wpAny_bind (wpAny_typeOf (T := "tuple") ⟨o, at_o, cls_o⟩ ?_)
    rw [if_pos (by first | decide | rfl | simp)]
    refine wpAny_bind (wpAny_seqItems at_o dat_o (wpAny_pure ?_))
    show wpAny _ A.in1 (holding [u, q.2] (dictSet S u q.2)) _ _ (_ : Shared)
    refine wpAny_holding (wpAny_dictSet_pairs (knd := mixKind prog w) (k := q.1) is_k dd1 (fun h2 dd2 same2 => ?_) (by omega))
    have grow := stored_length_le acc q.1 q.2
    refine wpAny_pure ⟨plainId_quiet ud_plain _, ih (i + 1) (stored acc q.1 q.2) (ix + 1) 0 _ (by omega) (by omega) (fun j q' e => ?_) ?_ ?_ dd2 fun h' tk dd' keep => ?_⟩
    · obtain ⟨b', u', x1, x2, x3, x4, x5⟩ := prs (j + 1) q' (by simpa using e)
      exact ⟨b', u', by rw [show i + 1 + j = i + (j + 1) by omega]; exact x1, x2, x3, (x4.extBut same1.extBut x3).extBut same2.extBut x2, x5⟩
    · obtain ⟨o', y1, y2⟩ := it1
      exact ⟨o', same2.extBut J o' (Ne.symm nSJ) y1, y2⟩
    · exact lt1.extBut same2.extBut (Ne.symm nSl)
    · exact fin h' tk dd' fun c oc n1 n2 e => keep c oc n1 n2 (same2.extBut c oc n1 (same1.extBut c oc n2 e))
/-- dict(t) of a tuple of pairs -/
theorem call_dict_tup {s : Shared} {l : Addr} {ol : Obj} {items : Array Value} {n : Nat} {prs : List (Key × Value)} {Q : Value → Shared → Prop} (calm : A.handled = none) (at_l : s.heap.get? l = some ol) (cls : ol.cls = .type "tuple") (nod : ol.dict = none)
    (dat : ol.data = .seq items n) (size : items.size = prs.length) (room : prs.length ≤ sizeLine)
    (each : ∀ (j : Nat) (q : Key × Value), prs[j]? = some q → ∃ (b : Addr) (u : Value), items[j]? = some (.ref b) ∧ IsTup s.heap b #[u, q.2] ∧ keyIs q.1 u = true)
    (h : ∀ h' tk, h'.DictOf (mixKind prog w) s.heap.objs.size (merged [] prs) → (∀ b o, s.heap.get? b = some o → h'.get? b = some o) → Q (.ref s.heap.objs.size) { s with heap := h', toks := tk }) :
    wpAny (model prog w) A (call (.type "dict") [.ref l]) Q E s := by
  refine callType_codes (Q₁ := fun obj s₁ => obj = .ref s.heap.objs.size ∧ s₁ = { s with heap := s.heap.push { cls := .type "dict", data := .dict #[] } }) PySem.F.kt_called_dict (PySem.F.kt_typeCall_dict_1 _) PySem.F.entry_dict_init (kt_code_dict_new _ ⟨rfl, rfl⟩) fun obj s₁ e => ?_
  obtain ⟨rfl, rfl⟩ := e
  have new : (s.heap.push { cls := .type "dict", data := .dict #[] }).DictOf (mixKind prog w) s.heap.objs.size [] := Heap.DictOf.new s.heap
  have old : ∀ b o, s.heap.get? b = some o → (s.heap.push { cls := .type "dict", data := .dict #[] }).get? b = some o := fun b o z => Heap.get?_push_of_some _ z
  refine ⟨new.typeIs, PySem.F.args_dict_init_2 _ _, ?_⟩
  unfold Builtin.«dict.__init__» Builtin.Dict.selfAndRest
  refine wpAny_bind (wpAny_bind (wpAny_notOrdered_dict new.typeIs ?_))
  show wpAny _ _ (pure (s.heap.objs.size, [Value.ref l])) _ _ (_ : Shared)
  refine wpAny_pure ?_
  show wpAny _ _ (Builtin.Dict.updateFrom "dict.__init__" s.heap.objs.size (.ref l) [] .none) _ _ (_ : Shared)
  unfold Builtin.Dict.updateFrom
  refine wpAny_bind (wpAny_typeOf (T := "tuple") ⟨ol, old _ _ at_l, cls⟩ ?_)
  rw [if_pos (by first | decide | rfl | simp)]
  refine wpAny_bind (miss_tuple (old _ _ at_l) cls dat nod calm fun h1 tk1 k1 => ?_)
  rw [if_pos (show (none : Option Value).isNone = true from rfl)]
  have lt1 : h1.IsTuple l items := ⟨ol, k1 _ _ (old _ _ at_l), cls, n, dat⟩
  have mine : (s.heap.push { cls := .type "dict", data := .dict #[] }).get? s.heap.objs.size = some { cls := .type "dict", data := .dict #[] } := Heap.get?_push_size _ rfl
  have big : s.heap.objs.size < h1.objs.size := Heap.lt_size (k1 _ _ mine)
  refine wpAny_bind (wpAny_rule (wpAny_bind (wpAny_pyIter_tuple lt1 ?_)))
  have k2 : ∀ b o, h1.get? b = some o → (h1.push { cls := .type "tuple_iterator", data := .fields #[.ref l, .int 0 0] }).get? b = some o := fun b o z => Heap.get?_push_of_some _ z
  have low : l < s.heap.objs.size := Heap.lt_size at_l
  have run := pairs_loop (prog := prog) (w := w) (A := A.in1) (R := wants (fun r s₂ => r = .none ∧ Q (.ref s.heap.objs.size) s₂) E) (S := s.heap.objs.size) (J := h1.objs.size) (l := l) (items := items) (res := Value.none) calm
    (Nat.ne_of_lt (Nat.lt_trans low big)) (Nat.ne_of_lt big) (Nat.ne_of_gt low) prs 0 [] 0 0
    { s with heap := h1.push { cls := .type "tuple_iterator", data := .fields #[.ref l, .int 0 0] }, toks := tk1 } (by omega) (by simpa using room)
    (fun j q e => by
      obtain ⟨b, u, e1, e2, e3⟩ := each j q e
      have hb : b < s.heap.objs.size := e2.lt
      exact ⟨b, u, by rw [Nat.zero_add]; exact e1, Nat.ne_of_lt hb, Nat.ne_of_lt (Nat.lt_trans hb big), e2.keeps fun c o z => k2 _ _ (k1 _ _ (old _ _ z)), e3⟩)
    ⟨_, Heap.get?_push_size _ rfl, rfl, rfl⟩ (lt1.push _) ((new.at fun o e => k1 _ _ e).at fun o e => k2 _ _ e)
    (fun h' tk dd keep => ⟨rfl, h h' tk dd fun b o e => keep b o (Nat.ne_of_lt (Heap.lt_size e)) (Nat.ne_of_lt (Nat.lt_trans (Heap.lt_size e) big)) (k2 _ _ (k1 _ _ (old _ _ e)))⟩)
  first
    | exact wpAny_pure ⟨plainId_quiet ud_plain _, run⟩
    | exact wpAny_bind (wpAny_pure (wpAny_pure ⟨plainId_quiet ud_plain _, run⟩))
end
section
variable {K : PySem.W.Frag} {X : Cx} {a : Expr} {ma : ME} {pos : Pos}
/-- the pairs that a dict is made of: keys texts or numbers -/
def prs : List D → Option (List (Key × D))
  | [] => some []
  | .tuple _ [k, v] :: r => match keyOf k, prs r with
    | some q, some rs => some ((q, v) :: rs)
    | _, _ => none
  | _ => none
def mergeD (acc : List (D × D)) (more : List (Key × D)) : List (D × D) := more.foldl (fun acc kv => putKs acc (.inl kv.1) (keyD kv.1) kv.2) acc
def oDict_pairs : O1 := fun a k => match a with
  | .list ds => match prs ds with
    | some ps => k (.dict (mergeD [] ps))
    | none => False
  | .tuple .frz ds => match prs ds with
    | some ps => k (.dict (mergeD [] ps))
    | none => False
  | _ => False
theorem mo_dictP : Mo1 oDict_pairs := fun a k k' w h => by
  unfold oDict_pairs at h ⊢
  split at h
  · split at h
    · exact w _ h
    · exact h.elim
  · split at h
    · exact w _ h
    · exact h.elim
  · exact h.elim
theorem prs_V {G H : Hp} (g : Same G H) : ∀ {vs : List V} {ds : List D} {ps : List (Key × D)}, RpAll K G vs ds → prs ds = some ps → ∃ (as : List Addr) (kvs : List (Key × V)), vs = as.map V.ref ∧ Paired (fun p kv => SqT K H p [kV kv.1, kv.2]) as kvs ∧ kvs.map (·.1) = ps.map (·.1) ∧ RpAll K G (kvs.map (·.2)) (ps.map (·.2))
  | _, _, _, .nil, h => by
    cases h
    exact ⟨[], [], rfl, .nil, rfl, .nil⟩
  | _, _, _, .cons (d := d) r rs, h => by
    unfold prs at h
    split at h
    · rename_i e; cases e
    · rename_i c k v r' e
      cases e
      split at h
      · rename_i q rs' e1 e2
        cases h
        obtain ⟨as, kvs, h1, h2, h3, h4⟩ := prs_V g rs e2
        have ek := keyOf_inv e1
        subst ek
        obtain ⟨b, ys, rfl, sq, ry, _⟩ := rp_tup r
        obtain ⟨x, y, rfl, r1, r2⟩ := rps2 ry
        have ex := key_val (H := H) (.fro r1)
        subst ex
        exact ⟨b :: as, (q, y) :: kvs, by rw [h1]; rfl, .cons (sqT_same g sq) h2, by rw [List.map_cons, List.map_cons, h3], .cons r2 h4⟩
      · cases h
    · cases h
theorem merge_ob {G : Hp} : ∀ {kvs : List (Key × V)} {ps : List (Key × D)} {acc : List (Key × V)} {dcc : List (D × D)}, kvs.map (·.1) = ps.map (·.1) → RpAll K G (kvs.map (·.2)) (ps.map (·.2)) → ObR K G (.dK acc) (.dict dcc) → ObR K G (.dK (mergeK acc kvs)) (.dict (mergeD dcc ps))
  | [], [], _, _, _, _, o => o
  | [], _ :: _, _, _, h, _, _ => by cases h
  | _ :: _, [], _, _, h, _, _ => by cases h
  | (k, v) :: kvs, (q, d) :: ps, acc, dcc, h, r, o => by
    have e1 : k = q := (List.cons.inj h).1
    subst e1
    cases r with
    | cons r1 r2 =>
      refine merge_ob (acc := putK acc k v) (dcc := putKs dcc (.inl k) (keyD k) d) (List.cons.inj h).2 r2 ?_
      generalize eo : HO.dK acc = ob at o
      generalize ed : D.dict dcc = dd at o
      cases o with
      | lst _ => cases eo
      | dT _ _ => cases eo
      | dK hl ra =>
        cases eo
        cases ed
        exact put_K hl ra r1
theorem callr_dictP (hc : X.calm = true) : CallR X (.type "dict") (fun xs H Q => ∃ x, xs = [x] ∧ rO1 X.K (pF X.K) oDict_pairs x H Q) := by
  intro pins s σ H xs us Q I r h
  obtain ⟨x, rfl, G, d, g, hx, q⟩ := h
  unfold oDict_pairs at q
  split at q
  · rename_i ds
    split at q
    · rename_i ps e
      obtain ⟨p, vs, rfl, rd, ra⟩ := vw_list g hx
      obtain ⟨as, kvs, h1, h2, h3, h4⟩ := prs_V g ra e
      subst h1
      exact call_dictP hc pins s σ H _ us Q I r ⟨p, as, kvs, rfl, .inl rd, h2, fun n nn => newF g q nn (merge_ob h3 h4 (.dK (ks := []) (xs := []) (ds := []) rfl .nil))⟩
    · exact q.elim
  · rename_i ds
    split at q
    · rename_i ps e
      have hr : ∃ p o ys, x = .ref p ∧ G p = some (.frz o (.tup ys)) ∧ o.dict = none ∧ RpAll X.K G ys ds := by
        cases hx with
        | fro r0 => cases r0 with
          | tupZ s0 n0 a0 => exact ⟨_, _, _, rfl, s0, n0, a0⟩
        | own _ r0 => cases r0
      obtain ⟨p, o, ys, rfl, sz, nod, ra⟩ := hr
      obtain ⟨as, kvs, h1, h2, h3, h4⟩ := prs_V g ra e
      subst h1
      obtain ⟨u, rfl, rx⟩ := vals1 r
      cases rx
      obtain ⟨at_o, z, its, rv, o', ho', hc', n, hd'⟩ := (show ObjOk X.prog X.w H s.heap p (.frz o (.tup (as.map V.ref))) from I.hok _ _ (g _ _ sz))
      rw [at_o] at ho'
      cases ho'
      have ei := refs_at rv
      subst ei
      obtain ⟨prs', rel, hl, hpr⟩ := pairs_of I h2
      rw [List.length_map] at z
      refine call_dict_tup (prs := prs') (I.ok.hd hc) at_o hc' nod hd' (by simp [hl]) (by rw [hl]; exact z) (fun j q' e' => ?_) fun h' tk dd keep => ?_
      · obtain ⟨b, u, e1, e2, e3⟩ := hpr j q' e'
        exact ⟨b, u, by simp [e1], e2, e3⟩
      · have big : (s.heap.objs.size == sysModules) = false := beq_eq_false_iff_ne.mpr (Nat.ne_of_gt I.big)
        have len : (mergeK [] kvs).length ≤ sizeLine := Nat.le_trans (length_mergeK kvs []) (by rw [List.length_nil, Nat.zero_add, rel.length, hl]; exact z)
        exact ⟨.ref s.heap.objs.size, upd H s.heap.objs.size (.dK (mergeK [] kvs)), I.laid (t' := tk) keep (Nat.le_refl _) (show ObjOk X.prog X.w _ _ _ (.dK (mergeK [] kvs)) from ⟨len, big, merged [] prs', KV.merge rel .nil, dd⟩), rfl, newF g q (I.hok.fresh (Nat.le_refl _)) (merge_ob h3 h4 (.dK (ks := []) (xs := []) (ds := []) rfl .nil))⟩
    · exact q.elim
  · exact q.elim
theorem se_dict_pairs {p : Pos} (hK : X.K = K) (hc : X.calm = true) (hg : Gl X "dict") (hm : X.mg "dict" = none) (ha : SE K (fV K) X a ma) (hs : starEach [a] X.env = [(false, eval a X.env)] := by rfl) (hpl : (backTo pos (starEach [] X.env)).any (·.1) = false := by rfl) :
    SE K (fF K) X (.Call (.Name "dict" p) [a] [] pos) (mUn oDict_pairs ma) := by
  subst hK
  exact se_t1 (T := "dict") (callr_dictP hc) (fun y H Q h => ⟨y, rfl, h⟩) mo_dictP embF hg hm (by decide +kernel) ha hs (by decide) (by decide) hpl
end
end Dl

set_option Elab.async false
set_option linter.all false
set_option maxRecDepth 100000
set_option maxHeartbeats 4000000
namespace Dl
open PySem PySem.Spec PyProof.Rows L2 Br
section
variable {K : PySem.W.Frag} {X : Cx} {a b : Expr} {ma mb : ME} {pos : Pos} {H : Hp}
/-! ### repr -/
mutual
theorem rp_nd' : ∀ (d : D) (v : V), Rp K H v d → (toPy d).hasDict = false → Dp K H v (toPy d)
  | .none, _, .non, _ => .non
  | .bool _, _, .bl b, _ => .bl b
  | .int _, _, .int i, _ => .int i
  | .str _, _, .str x, _ => .str x
  | .list ds, _, .lst s a, h => .lst (.inl s) (rps_nd' ds _ a h)
  | .tuple .mad ds, _, .tup s a, h => .tup (SqT.of s) (rps_nd' ds _ a h)
  | .tuple .wri ds, _, .tupC s a, h => .tup s (rps_nd' ds _ a h)
  | .tuple .frz ds, _, .tupZ s _ a, h => .tup (.inl (.inr ⟨_, s⟩)) (rps_nd' ds _ a h)
  | .dict _, _, _, h => (Bool.noConfusion h)
  | .scr _, _, _, h => (Bool.noConfusion h)
theorem rps_nd' : ∀ (ds : List D) (vs : List V), RpAll K H vs ds → PyData.hasDictAll (toPys ds) = false → DpAll K H vs (toPys ds)
  | [], _, .nil, _ => .nil
  | d :: ds, _, .cons x r, h => .cons (rp_nd' d _ x (Bool.or_eq_false_iff.mp h).1) (rps_nd' ds _ r (Bool.or_eq_false_iff.mp h).2)
end
def oRepr : O1 := fun d k => (toPy d).showable = true ∧ (toPy d).hasDict = false ∧ (toPy d).depth ≤ 60 ∧ (toPy d).shown.length ≤ sizeLine ∧ k (.str (toPy d).shown)
theorem mo_repr : Mo1 oRepr := fun a k k' w h => ⟨h.1, h.2.1, h.2.2.1, h.2.2.2.1, w _ h.2.2.2.2⟩
theorem callr_repr (hu : X.A.units + 64 < cLine) (hG : Bare X.A) : CallR X (.builtin "repr") (fun xs H Q => ∃ x, xs = [x] ∧ rO1 X.K (pE X.K) oRepr x H Q) := by
  intro pins s σ H xs us Q I r h
  obtain ⟨x, rfl, G, d, g, hx, h1, h2, h3, h4, q⟩ := h
  have rx := vw_rp g hx
  have fin : Q (.str (toPy d).shown) H := stay g q (.str _)
  cases d with
  | none =>
    cases rx
    obtain ⟨u, rfl, e⟩ := vals1 r
    cases e
    exact PySem.P.repr_of_none ⟨.str _, H, I.tok _, ⟨_, rfl⟩, fin⟩
  | bool b =>
    cases rx
    obtain ⟨u, rfl, e⟩ := vals1 r
    cases e
    exact PySem.P.repr_of_bool ⟨.str _, H, I.tok _, ⟨_, rfl⟩, fin⟩
  | int i =>
    cases rx
    obtain ⟨u, rfl, t, rfl⟩ := vals1 r
    exact PySem.P.repr_of_int (of_decide_eq_true h1) ⟨.str _, H, I.tok _, ⟨_, rfl⟩, fin⟩
  | str z =>
    cases rx
    obtain ⟨u, rfl, t, rfl⟩ := vals1 r
    exact PySem.P.repr_of_str ⟨.str _, H, I.tok _, ⟨_, rfl⟩, fin⟩ h4
  | list ds =>
    have dp := rp_nd' _ _ rx h2
    cases rx with
    | lst _ _ => exact call_reprD hu hG pins s σ H _ us Q I r ⟨_, _, rfl, dp, h1, h2, h3, h4, fin⟩
  | tuple c ds =>
    have dp := rp_nd' _ _ rx h2
    obtain ⟨p, ys, rfl, _⟩ := rp_tup rx
    exact call_reprD hu hG pins s σ H _ us Q I r ⟨_, _, rfl, dp, h1, h2, h3, h4, fin⟩
  | dict _ => cases h2
  | scr _ => cases h2
theorem se_repr {k : Nat} {p : Pos} (hK : X.K = K) (hG : Bare X.A) (hr : Room k X.A) (hg : Gl X "repr") (hm : X.mg "repr" = none) (ha : SE K (fV K) X a ma) (hs : starEach [a] X.env = [(false, eval a X.env)] := by rfl) (hpl : (backTo pos (starEach [] X.env)).any (·.1) = false := by rfl) :
    SE K (fE K) X (.Call (.Name "repr" p) [a] [] pos) (mUn oRepr ma) := by
  subst hK
  exact se_b1 (id := "repr") (callr_repr hr.units hG) (fun y H Q h => ⟨y, rfl, h⟩) mo_repr embE hg hm (by decide +kernel) ha hs (by decide) (by decide) hpl
/-! ### d == {}, d != {} -/
def oDE (neg : Bool) : O2 := fun a b k => match a, b with
  | .dict ps, .dict [] => k (.bool (ps.isEmpty != neg))
  | _, _ => False
theorem mo_DE {neg : Bool} : Mo2 (oDE neg) := fun a b k k' w h => by
  unfold oDE at h ⊢
  split at h
  · exact w _ h
  · exact h.elim
/-- a dict as it lies -/
def RawD (s : Shared) (p : Addr) (n : Nat) : Prop := (p == sysModules) = false ∧ ∃ o es ep, s.heap.get? p = some o ∧ o.ExactDict ∧ o.data = .dict es ep ∧ es.size = n
theorem raw_of {pins : List (Addr × Obj)} {σ : L2.St} {G : Hp} {s : Shared} {x : V} {ps : List (D × D)} (I : Inv X pins σ H s) (g : Same G H) (h : Vw X.K G H x (.dict ps)) : ∃ p, x = .ref p ∧ RawD s p ps.length := by
  obtain ⟨p, e, c⟩ := vw_dict g h
  refine ⟨p, e, ?_⟩
  rcases c with ⟨ks, xs, ds, rd, hl, ra, rfl⟩ | ⟨ks, xs, ds, rd, hl, ra, rfl⟩
  · obtain ⟨_, hd, vs, rel, o, es, ep, h1, h2, h3, h4, h5, h6⟩ := dk_rd I.hok rd
    refine ⟨hd, o, es, ep, h1, h2, h3, ?_⟩
    have e1 := h5.length
    have e2 := rel.length
    have e3 := rps_len ra
    rw [Array.length_toList] at e1
    simp at e2 ⊢
    omega
  · obtain ⟨_, hd, zs, rel, o, es, ep, h1, h2, h3, h4, h5⟩ := dt_rd I.hok rd
    refine ⟨hd, o, es, ep, h1, h2, h3, ?_⟩
    have e1 := size_of_entries h4
    have e2 := Paired.length rel
    have e3 := rps_len ra
    simp at e2 ⊢
    omega
theorem RawD.typeIs {s : Shared} {p : Addr} {n : Nat} (h : RawD s p n) : s.TypeIs (.ref p) "dict" := let ⟨_, o, _, _, e, c, _⟩ := h; ⟨o, e, c.1⟩
theorem same_pairs {prog : Program} {w : World} {A : Around} {E : Value → Shared → Prop} {s : Shared} {p q : Addr} {n : Nat} {nm : String} {Q : Bool → Shared → Prop} (hp : RawD s p n) (hq : RawD s q 0) (h : Q (n == 0) s) : wpAny (model prog w) A (Builtin.Dict.samePairs nm p q) Q E s := by
  obtain ⟨a1, oa, es, ep, a2, _, a3, a4⟩ := hp
  obtain ⟨b1, ob, es', ep', b2, _, b3, b4⟩ := hq
  unfold Builtin.Dict.samePairs Builtin.Dict.showsAll
  rw [if_neg (by rw [a1]; exact Bool.false_ne_true), if_neg (by rw [b1]; exact Bool.false_ne_true)]
  refine wpAny_bind (wpAny_pure (wpAny_bind (wpAny_pure (wpAny_bind (wpAny_dictEntries a2 a3 ?_)))))
  dsimp only
  refine wpAny_bind (wpAny_dictEntries b2 b3 ?_)
  by_cases hz : n = 0
  · subst hz
    rw [if_neg (by rw [a4, b4]; simp)]
    refine wpAny_bind (wpAny_dictEpoch a2 a3 (wpAny_bind ?_))
    rw [Std.Legacy.Range.forIn_eq_forIn_range']
    simp only [Std.Legacy.Range.size, Nat.sub_zero, Nat.add_sub_cancel, Nat.div_one, a4]
    exact wpAny_pure (wpAny_pure h)
  · rw [if_pos (by rw [a4, b4]; simpa using hz)]
    have e : (n == 0) = false := by simpa using hz
    rw [e] at h
    exact wpAny_bind (wpAny_rule (wpAny_pure h))
theorem raw_eq {prog : Program} {w : World} {A : Around} {E : Value → Shared → Prop} {s : Shared} {p q : Addr} {n : Nat} {Q : Value → Shared → Prop} (hp : RawD s p n) (hq : RawD s q 0) (hu : A.units < cLine) (h : Q (.bool (n == 0)) s) : wpAny (model prog w) A (compareOp .Eq (.ref p) (.ref q)) Q E s := by
  refine wpAny_richCompare_same_room (op := .Eq) hp.typeIs hq.typeIs PySem.F.slot_dict_eq (wpAny_call_entry PySem.F.slot_dict_eq hp.typeIs PySem.F.entry_dict_eq ?body (PySem.F.args_dict_eq_2 _ _)) hu
  show wpAny _ _ (Builtin.Dict.dictSlotArgs "__eq__" ⟨[.ref p, .ref q], []⟩ >>= _) _ _ s
  unfold Builtin.Dict.dictSlotArgs
  refine wpAny_bind (wpAny_bind (wpAny_notOrdered_dict hp.typeIs ?_))
  show wpAny _ _ (pure (Value.ref p, Value.ref q)) _ _ s
  refine wpAny_pure (wpAny_bind (wpAny_isInstance (T := "dict") hq.typeIs PySem.F.sub_dict_dict ?_))
  simp only [Bool.not_true, Bool.false_eq_true, if_false]
  refine wpAny_bind (wpAny_pure (wpAny_bind (wpAny_pure (wpAny_bind (same_pairs hp hq ?_)))))
  exact wpAny_pure ⟨_, rfl, (by intro x; cases x), by simpa using h⟩
theorem raw_ne {prog : Program} {w : World} {A : Around} {E : Value → Shared → Prop} {s : Shared} {p q : Addr} {n : Nat} {Q : Value → Shared → Prop} (hp : RawD s p n) (hq : RawD s q 0) (hu : A.units < cLine) (h : Q (.bool (!(n == 0))) s) : wpAny (model prog w) A (compareOp .NotEq (.ref p) (.ref q)) Q E s := by
  refine wpAny_richCompare_same_room (op := .NotEq) hp.typeIs hq.typeIs PySem.F.slot_dict_ne (wpAny_call_entry PySem.F.slot_dict_ne hp.typeIs PySem.F.entry_dict_ne ?body (PySem.F.args_dict_ne_2 _ _)) hu
  show wpAny _ _ (Builtin.Dict.dictSlotArgs "__ne__" ⟨[.ref p, .ref q], []⟩ >>= _) _ _ s
  unfold Builtin.Dict.dictSlotArgs
  refine wpAny_bind (wpAny_bind (wpAny_notOrdered_dict hp.typeIs ?_))
  show wpAny _ _ (pure (Value.ref p, Value.ref q)) _ _ s
  refine wpAny_pure (wpAny_bind (wpAny_isInstance (T := "dict") hq.typeIs PySem.F.sub_dict_dict ?_))
  simp only [Bool.not_true, Bool.false_eq_true, if_false]
  refine wpAny_bind (wpAny_pure (wpAny_bind (wpAny_pure (wpAny_bind (same_pairs hp hq ?_)))))
  exact wpAny_pure ⟨_, rfl, (by intro x; cases x), by simpa using h⟩
theorem emp_len {α : Type} (l : List α) : (l.length == 0) = l.isEmpty := by cases l <;> rfl
theorem c_deq (hK : X.K = K) (hu : X.A.units < cLine) : Cmp K X .Eq (oDE false) := by
  subst hK
  refine ⟨mo_DE, fun pins s σ H x y v u Q I rx ry h => ?_⟩
  obtain ⟨G, a, b, g, hx, hy, q⟩ := h
  unfold oDE at q
  split at q
  · obtain ⟨p, rfl, r1⟩ := raw_of I g hx
    obtain ⟨p2, rfl, r2⟩ := raw_of I g hy
    cases rx
    cases ry
    rw [xor_f, ← emp_len] at q
    exact raw_eq r1 r2 hu ⟨.bl _, H, I, rfl, stay g q (.bl _)⟩
  · exact q.elim
theorem c_dne (hK : X.K = K) (hu : X.A.units < cLine) : Cmp K X .NotEq (oDE true) := by
  subst hK
  refine ⟨mo_DE, fun pins s σ H x y v u Q I rx ry h => ?_⟩
  obtain ⟨G, a, b, g, hx, hy, q⟩ := h
  unfold oDE at q
  split at q
  · obtain ⟨p, rfl, r1⟩ := raw_of I g hx
    obtain ⟨p2, rfl, r2⟩ := raw_of I g hy
    cases rx
    cases ry
    rw [xor_t, ← emp_len] at q
    exact raw_ne r1 r2 hu ⟨.bl _, H, I, rfl, stay g q (.bl _)⟩
  · exact q.elim
/-! ### what is never come to -/
def mNever : MS := fun _ _ => False
theorem ss_never {n : Nat} {st : Stmt} : SS K n X st mNever := ⟨fun _ _ _ _ _ _ _ h => h, ps_weak ps_never fun T σ H ⟨_, _, _, _, q, _⟩ => q.elim⟩
end
end Dl

set_option Elab.async false
set_option linter.all false
set_option maxRecDepth 100000
set_option maxHeartbeats 4000000
namespace Dl
open PySem PySem.Spec PyProof.Rows L2 Br
section
variable {K : PySem.W.Frag} {X : Cx} {a b c : Expr} {ma mb mc : ME} {pos : Pos}
/-! ### {k: v} -/
def mDisp1 (ma mb : ME) : ME := fun ρ k => ma ρ fun da ρ1 => mb ρ1 fun db ρ2 => match keyOf da with
  | some q => k (.dict [(keyD q, db)]) ρ2
  | none => False
theorem se_disp1 (ha : SE K (fE K) X a ma) (hb : SE K (fE K) X b mb) : SE K (fF K) X (.Dict [some a] [b] pos) (mDisp1 ma mb) := by
  constructor
  · intro ρ k k' w
    refine ha.mono ρ _ _ fun da ρ1 => hb.mono ρ1 _ _ fun db ρ2 q => ?_
    split at q
    · exact w _ _ q
    · exact q.elim
  · refine pe_weak (pe_disp (pps_cons ha.pe hb.pe pps_nil) rfl rfl (by simp) (by simp)) fun σ H Q ⟨G, ρ, R, q⟩ p np => ?_
    have gp : G p = none := R.gh.free np
    have nw : ¬ Ow σ ρ p := fun w => R.old w np
    have R0 := R.poke (o := .dK []) gp nw
    have l0 : Lk 0 σ G H ρ σ G (upd H p (.dK [])) ρ := Lk.refl.poke np
    refine ⟨G, ρ, R0, ha.mono ρ _ _ (fun da ρ1 q x G1 H1 R1 l1 rx => ⟨G1, ρ1, R1, hb.mono ρ1 _ _ (fun db ρ2 q y G2 H2 R2 l2 ry => ?_) q⟩) q⟩
    have l12 := l1.trans l2
    have hp2 : H2 p = some (.dK []) := l12.st.hh p _ nw upd_same
    have gp2 : G2 p = none := l12.st.fr p _ nw upd_same gp rfl
    have nw2 : ¬ Ow σ ρ2 p := fun w => by
      rcases l12.sb p w with z | z
      · exact nw z
      · rw [upd_same] at z; cases z
    split at q
    · rename_i k e
      have ed := keyOf_inv e
      rw [ed] at rx
      have ex := key_val (H := H1) (.fro rx)
      subst ex
      refine ⟨hp2, [(k, y)], rfl, by simp, ?_⟩
      refine q _ G2 _ (R2.poke gp2 nw2) ((l0.trans l12).poke np) ⟨p, _, rfl, np, nw2, upd_same, gp2, ?_⟩
      exact .dK (ks := [k]) (xs := [y]) (ds := [db]) rfl (.cons ry .nil)
    · exact q.elim
/-! ### a < b < c -/
theorem t_chain {o o' : O2} {r r' : R2} (h : Op2 K (pE K) r o) (h' : Op2 K (pE K) r' o') (ha : SE K (fE K) X a ma) (hb : SE K (fE K) X b mb) (hc : SE K (fV K) X c mc) (σ : L2.St) (H : Hp) (Q : VK) (q : tE K (fE K) (mChain o o' ma mb mc) σ H Q) :
    tChain r r' (tE K (fE K) ma) (tE K (fE K) mb) (tE K (fV K) mc) σ H Q := by
  obtain ⟨G, ρ, R, q⟩ := q
  refine ⟨G, ρ, R, ha.mono ρ _ _ (fun da ρ1 q x G1 H1 R1 l1 rx => ⟨G1, ρ1, R1, hb.mono ρ1 _ _ (fun db ρ2 q y G2 H2 R2 l2 ry => ?_) q⟩) q⟩
  refine h.run G2 H2 x y da db _ R2.gh (vw_of rx l2) (.fro ry) (h.mono _ _ _ _ (fun d q v G3 H3 gh st pv => ?_) q)
  have R3 := R2.pure st gh
  have l3 := (l1.trans l2).trans (Lk.pure (n := 0) (ρ := ρ2) (σ := σ) st)
  rcases d with _ | (_ | _) | _ | _ | _ | _ | _ | _
  all_goals first | exact q.elim | skip
  · cases pv
    exact ⟨false, rfl, (by first | exact iteF (q _ G3 H3 R3 l3 (.bl false)) | exact q _ G3 H3 R3 l3 (.bl false))⟩
  · cases pv
    refine ⟨true, rfl, ?_⟩
    have go : (tE K (fV K) mc) σ H3 fun z H4 => r' y z H4 Q := by
      refine ⟨G3, ρ2, R3, hc.mono ρ2 _ _ (fun dc ρ3 q z G4 H4 R4 l4 rz => ?_) q⟩
      exact h'.run G4 H4 y z db dc _ R4.gh (.fro (rp_same l4.st.gg (rp_same st.gg ry))) rz (h'.mono _ _ _ _ (fun e q v G5 H5 gh5 st5 pv5 => q v G5 H5 (R4.pure st5 gh5) ((l3.trans l4).trans (.pure st5)) pv5) q)
    first | exact iteT go | exact go
theorem mo_chain {o o' : O2} (h : Mo2 o) (h' : Mo2 o') (ha : Mo ma) (hb : Mo mb) (hc : Mo mc) : Mo (mChain o o' ma mb mc) := fun ρ k k' w => ha ρ _ _ fun da ρ1 => hb ρ1 _ _ fun db ρ2 => h _ _ _ _ fun d q => by
  rcases d with _ | (_ | _) | _ | _ | _ | _ | _ | _
  all_goals first | exact q.elim | exact w _ _ q | exact hc ρ2 _ _ (fun dc ρ3 => h' _ _ _ _ fun e => w e ρ3) q
theorem se_chain {op op' : CmpOp} {o o' : O2} (h : Cmp K X op o) (h' : Cmp K X op' o') (ha : SE K (fE K) X a ma) (hb : SE K (fE K) X b mb) (hc : SE K (fV K) X c mc) (hm : lastMarks [op, op'] [b, c] = false := by with_unfolding_all rfl) : SE K (fE K) X (.Compare a [op, op'] [b, c] pos) (mChain o o' ma mb mc) :=
  ⟨mo_chain h.mo h'.mo ha.mono hb.mono hc.mono, pe_weak (pe_chain h.opr h'.opr ha.pe hb.pe hc.pe hm) (t_chain (op2_of h.mo) (op2_of h'.mo) ha hb hc)⟩
theorem st_chain {op op' : CmpOp} {o o' : O2} (h : Cmp K X op o) (h' : Cmp K X op' o') (ha : SE K (fE K) X a ma) (hb : SE K (fE K) X b mb) (hc : SE K (fV K) X c mc) (hm : lastMarks [op, op'] [b, c] = false := by with_unfolding_all rfl) : ST K X (.Compare a [op, op'] [b, c] pos) (mTest (mChain o o' ma mb mc)) := by
  have mo := mo_chain h.mo h'.mo ha.mono hb.mono hc.mono
  refine ⟨mo_test mo, pt_weak (pt_chain h.opr h'.opr ha.pe hb.pe hc.pe hm) fun σ H Q ⟨G, ρ, R, q⟩ => ?_⟩
  refine t_chain (op2_of h.mo) (op2_of h'.mo) ha hb hc σ H _ ⟨G, ρ, R, mo ρ _ _ (fun d ρ1 q v G1 H1 R1 l r => ?_) q⟩
  cases d with
  | bool b =>
    cases r
    exact ⟨b, rfl, q G1 H1 R1 l⟩
  | _ => exact q.elim
end
end Dl

set_option Elab.async false
set_option linter.all false
set_option maxRecDepth 100000
set_option maxHeartbeats 4000000
/-! The end of a law by data: its script is a cell of its own. -/
namespace Dl
open PySem PySem.Spec PyProof.Rows L2 Br
theorem rel_scr {K : PySem.W.Frag} {H : Hp} {a : Addr} {xs : List Int} (hS : SqL K H a (xs.map V.int)) : Rel K [some (.ref a)] H H [.fro (.scr xs)] := by
  refine ⟨Same.refl H, rfl, fun i d e => ?_, fun i d e => ?_, fun i j p d c e => ?_⟩
  · match i, e with
    | 0, e => cases e; exact ⟨_, rfl, .scr hS⟩
  · match i, e with
    | 0, e => cases e
  · match i, e with
    | 0, e => cases e
theorem dl_true {K : PySem.W.Frag} {G : Hp} {v : V} (r : Rp K G v (.bool true)) : v = .bl true := by cases r; rfl
theorem law_end {K : PySem.W.Frag} {H : Hp} {a : Addr} {xs : List Int} {F : Fs} (hS : SqL K H a (xs.map V.int)) (h : F [.fro (.scr xs)] fun d _ => ∀ (v : V) (G' : Hp), Rp K G' v d → v = .bl true) (mo : ∀ cs (k k' : D → List Cell → Prop), (∀ d cs', k d cs' → k' d cs') → F cs k → F cs k') : spD K 1 0 F [.ref a] H (fun v _ => v = .bl true) fun _ _ _ => False :=
  ⟨rfl, H, _, rel_scr hS, mo _ _ _ (fun d _ z v G' _ _ _ _ r => z v G' r) h⟩
end Dl

set_option Elab.async false
set_option linter.all false
set_option maxRecDepth 100000
set_option maxHeartbeats 4000000
/-! Dicts that are walked: such a dict is known as it lies while it is walked. -/
namespace Dl
open PySem PySem.Spec PyProof.Rows L2 Br
def isFrz : HO → Bool
  | .frz _ _ => true
  | _ => false
def isDic : HO → Bool
  | .dK _ => true
  | .dT _ => true
  | _ => false
/-- the same data, but that some dicts are known as they lie, or not any more -/
structure Sw (G G' : Hp) : Prop where
  rd : ∀ b u, isFrz u = false → Rd G b u → Rd G' b u
  tp : ∀ b xs, G b = some (.tup xs) → G' b = some (.tup xs)
  tz : ∀ b o xs, G b = some (.frz o (.tup xs)) → G' b = some (.frz o (.tup xs))
section
variable {K : PySem.W.Frag} {G G' : Hp}
mutual
theorem rp_sw (e : Sw G G') : ∀ {v : V} {d : D}, Rp K G v d → Rp K G' v d
  | _, _, .non => .non
  | _, _, .bl b => .bl b
  | _, _, .int i => .int i
  | _, _, .str x => .str x
  | _, _, .lst s a => .lst (e.rd _ _ rfl s) (rps_sw e a)
  | _, _, .tup s a => .tup (e.tp _ _ s) (rps_sw e a)
  | _, _, .tupC s a => .tupC (s.imp (e.rd _ _ rfl) id) (rps_sw e a)
  | _, _, .tupZ s n a => .tupZ (e.tz _ _ _ s) n (rps_sw e a)
  | _, _, .scr s => .scr (s.imp (e.rd _ _ rfl) id)
  | _, _, .dK s l a => .dK (e.rd _ _ rfl s) l (rps_sw e a)
  | _, _, .dT s l a => .dT (e.rd _ _ rfl s) l (rps_sw e a)
theorem rps_sw (e : Sw G G') : ∀ {vs : List V} {ds : List D}, RpAll K G vs ds → RpAll K G' vs ds
  | _, _, .nil => .nil
  | _, _, .cons x r => .cons (rp_sw e x) (rps_sw e r)
end
theorem ob_sw (e : Sw G G') {o : HO} {d : D} (h : ObR K G o d) : ObR K G' o d := by
  cases h with
  | lst a => exact .lst (rps_sw e a)
  | dK l a => exact .dK l (rps_sw e a)
  | dT l a => exact .dT l (rps_sw e a)
theorem sw_lock {a : Addr} {u : HO} {od : Obj} (h : G a = some u) (hd : isDic u = true) : Sw G (upd G a (.frz od u)) := by
  refine ⟨fun b u' _ r => ?_, fun b xs e => ?_, fun b o xs e => ?_⟩
  · by_cases z : b = a
    · subst z
      rcases r with r | ⟨o, r⟩
      · rw [h] at r; cases r; exact .inr ⟨od, upd_same⟩
      · rw [h] at r; cases r; cases hd
    · exact r.imp (fun q => (upd_ne z).trans q) fun ⟨o, q⟩ => ⟨o, (upd_ne z).trans q⟩
  · by_cases z : b = a
    · subst z; rw [h] at e; cases e; cases hd
    · exact (upd_ne z).trans e
  · by_cases z : b = a
    · subst z; rw [h] at e; cases e; cases hd
    · exact (upd_ne z).trans e
theorem sw_unlock {a : Addr} {u : HO} {od : Obj} (h : G a = some (.frz od u)) (hd : isDic u = true) : Sw G (upd G a u) := by
  refine ⟨fun b u' hf r => ?_, fun b xs e => ?_, fun b o xs e => ?_⟩
  · by_cases z : b = a
    · subst z
      rcases r with r | ⟨o, r⟩
      · rw [h] at r; cases r; cases hf
      · rw [h] at r; cases r; exact .inl upd_same
    · exact r.imp (fun q => (upd_ne z).trans q) fun ⟨o, q⟩ => ⟨o, (upd_ne z).trans q⟩
  · by_cases z : b = a
    · subst z; rw [h] at e; cases e
    · exact (upd_ne z).trans e
  · by_cases z : b = a
    · subst z; rw [h] at e; cases e; cases hd
    · exact (upd_ne z).trans e
theorem Rel.swap {σ : L2.St} {H : Hp} {ρ : Cs} {a : Addr} {u u' : HO} (R : Rel K σ G H ρ) (h : G a = some u) (sw : Sw G (upd G a u')) : Rel K σ (upd G a u') (upd H a u') ρ := by
  refine ⟨fun b o e => ?_, R.len, fun i d e => ?_, fun i d e => ?_, R.apart⟩
  · by_cases z : b = a
    · subst z; rw [upd_same] at e ⊢; exact e
    · rw [upd_ne z] at e ⊢; exact R.gh b o e
  · obtain ⟨v, hv, r⟩ := R.fro i d e
    exact ⟨v, hv, rp_sw sw r⟩
  · obtain ⟨p, o, hv, hp, gp, ob⟩ := R.own i d e
    have ne : p ≠ a := fun z => by subst z; rw [h] at gp; cases gp
    exact ⟨p, o, hv, (upd_ne ne).trans hp, (upd_ne ne).trans gp, ob_sw sw ob⟩
theorem Lk.swap {n : Nat} {σ σ' : L2.St} {H G1 H1 : Hp} {ρ ρ' : Cs} {a : Addr} {u w : HO} (l : Lk n σ (upd G a w) (upd H a w) ρ σ' G1 H1 ρ') (hG : G a = some u) (hH : H a = some u) : Lk n σ G H ρ σ' (upd G1 a u) (upd H1 a u) ρ' := by
  refine ⟨⟨fun b o e => ?_, fun b o n e => ?_, fun b o n e g t => ?_, fun b e => ?_⟩, fun p x => ?_, l.pn⟩
  · by_cases z : b = a
    · subst z; rw [hG] at e; cases e; exact upd_same
    · rw [upd_ne z]; exact l.st.gg b o ((upd_ne z).trans e)
  · by_cases z : b = a
    · subst z; rw [hH] at e; cases e; exact upd_same
    · rw [upd_ne z]; exact l.st.hh b o n ((upd_ne z).trans e)
  · have z : b ≠ a := fun z => by subst z; rw [hG] at g; cases g
    rw [upd_ne z]
    exact l.st.fr b o n ((upd_ne z).trans e) ((upd_ne z).trans g) t
  · by_cases z : b = a
    · subst z; rw [upd_same] at e; cases e
    · rw [upd_ne z] at e
      have := l.st.dom b e
      rw [upd_ne z] at this
      exact this
  · rcases l.sb p x with y | y
    · exact .inl y
    · by_cases z : p = a
      · subst z; rw [upd_same] at y; cases y
      · rw [upd_ne z] at y; exact .inr y
end
section
variable {K : PySem.W.Frag} {X : Cx}
/-- an object is known as it lies while an expression is worth something -/
theorem pe_locked {e : Expr} {t : TE} (h : PE X e t) : PE X e (fun σ H Q => ∃ a u, H a = some u ∧ Mut (some u) ∧ ∀ od, t σ (upd H a (.frz od u)) fun v H1 => H1 a = some (.frz od u) ∧ Q v (upd H1 a u)) := by
  refine ⟨fun pins s σ H Q I ⟨a, u, ha, mu, q⟩ => ?_⟩
  obtain ⟨od, I2⟩ := I.lock ha mu
  have nf := I.nofrz ha mu
  refine thn (h.run pins s σ _ _ I2 (q od)) fun v s1 ⟨x, H1, I1, rx, e1, q1⟩ => ?_
  exact ⟨x, _, I1.unlock e1 nf, rx, q1⟩
theorem pe_or {e : Expr} {t t' : TE} (h : PE X e t) (h' : PE X e t') : PE X e (fun σ H Q => t σ H Q ∨ t' σ H Q) :=
  ⟨fun pins s σ H Q I q => q.elim (h.run pins s σ H Q I) (h'.run pins s σ H Q I)⟩
def dlen : HO → Nat
  | .dK kvs => kvs.length
  | .dT kvs => kvs.length
  | _ => 0
theorem pe_sized {e : Expr} {t : TE} (h : PE X e t) : PE X e (fun σ H Q => ∃ a u, Rd H a u ∧ isDic u = true ∧ (dlen u ≤ sizeLine → t σ H Q)) := by
  refine ⟨fun pins s σ H Q I ⟨a, u, rd, hd, q⟩ => h.run pins s σ H Q I (q ?_)⟩
  unfold isDic at hd
  split at hd
  · exact (dk_rd I.hok rd).1
  · exact (dt_rd I.hok rd).1
  · cases hd
def mLk (i : Nat) (m : ME) : ME := fun ρ k => match ρ[i]? with
  | some (.fro (.dict _)) => m ρ k
  | _ => False
def tEL (K : PySem.W.Frag) (i : Nat) (m : ME) : TE := fun σ H Q => ∃ G ρ, Rel K σ G H ρ ∧ (∃ a o u, σ[i]? = some (some (.ref a)) ∧ G a = some (.frz o u) ∧ isDic u = true ∧ dlen u ≤ sizeLine) ∧ m ρ fun d ρ' => ∀ v G' H', Rel K σ G' H' ρ' → Lk 0 σ G H ρ σ G' H' ρ' → fF K H σ ρ' G' H' v d → Q v H'
theorem rp_dic {G : Hp} {v : V} {ps : List (D × D)} (r : Rp K G v (.dict ps)) : ∃ a u, v = .ref a ∧ Rd G a u ∧ isDic u = true := by
  cases r with
  | dK s l a => exact ⟨_, _, rfl, s, rfl⟩
  | dT s l a => exact ⟨_, _, rfl, s, rfl⟩
theorem mut_dic {u : HO} (h : isDic u = true) : Mut (some u) := by
  unfold isDic at h
  split at h
  · exact True.intro
  · exact True.intro
  · cases h
theorem se_locked {e : Expr} {i : Nat} {m : ME} (mo : Mo m) (h : PE X e (tEL K i m)) : SE K (fF K) X e (mLk i m) := by
  refine ⟨fun ρ k k' w => ?_, pe_weak (pe_sized (pe_or h (pe_locked h))) fun σ H Q ⟨G, ρ, R, q⟩ => ?_⟩
  · unfold mLk
    split
    · exact mo ρ k k' w
    · exact id
  · unfold mLk at q
    split at q
    · rename_i ps ei
      obtain ⟨v, hv, r⟩ := R.fro i _ ei
      obtain ⟨a, u, rfl, rd, hd⟩ := rp_dic r
      refine ⟨a, u, rd_same R.gh rd, hd, fun hz => ?_⟩
      rcases rd with rd | ⟨o, rd⟩
      · refine .inr ⟨a, u, R.gh a u rd, mut_dic hd, fun od => ?_⟩
        have sw := sw_lock (od := od) rd hd
        refine ⟨_, ρ, R.swap rd sw, ⟨a, od, u, hv, upd_same, hd, hz⟩, mo ρ _ _ (fun d ρ' q v' G1 H1 R1 l1 f1 => ?_) q⟩
        have g1 : G1 a = some (.frz od u) := l1.st.gg a _ upd_same
        have l0 := l1.swap rd (R.gh a u rd)
        refine ⟨R1.gh a _ g1, q v' _ _ (R1.swap g1 (sw_unlock g1 hd)) l0 ?_⟩
        obtain ⟨p, ob, rfl, h0, nw, hp, gp, oo⟩ := f1
        have ne : p ≠ a := fun z => by subst z; rw [upd_same] at h0; cases h0
        rw [upd_ne ne] at h0
        exact ⟨p, ob, rfl, h0, nw, (upd_ne ne).trans hp, (upd_ne ne).trans gp, ob_sw (sw_unlock g1 hd) oo⟩
      · exact .inl ⟨G, ρ, R, ⟨a, o, u, hv, rd, hd, hz⟩, q⟩
    · exact q.elim
/-- the keys of a dict that is known as it lies -/
theorem wk_keys {G : Hp} {a : Addr} {o : Obj} {ks : List Key} {xs : List V} (hl : ks.length = xs.length) (h : G a = some (.frz o (.dK (ks.zip xs)))) : Wk K (Itk a o (ks.zip xs)) G (ks.map keyD) := by
  intro G' H' g gh
  have W := walk_keys (d := a) (o := o) (kvs := ks.zip xs)
  have hh : H' a = some (.frz o (.dK (ks.zip xs))) := gh _ _ (g _ _ h)
  have ln : (ks.map keyD).length = (ks.zip xs).length := by simp [hl]
  refine ⟨fun i hi => W.goes i H' (by omega) hh, ln ▸ W.stops H' hh, fun i x H3 hi y => ?_⟩
  obtain ⟨rfl, k, v, hx, rfl⟩ := W.yields i H' x H3 (by omega) hh y
  refine ⟨G', keyD k, gh, .refl, ?_, ?_⟩
  · rw [List.getElem?_map]
    have : (ks.zip xs)[i]?.map Prod.fst = some k := by rw [hx]; rfl
    rw [← List.getElem?_map, List.map_fst_zip (by omega)] at this
    rw [this]; rfl
  · cases k with
    | inl n => exact .int n
    | inr x => exact .str x
theorem wk_keysT {G : Hp} {a : Addr} {o : Obj} {ks : List (List Key)} {xs : List V} (hl : ks.length = xs.length) (h : G a = some (.frz o (.dT (ks.zip xs)))) : Wk K (Itkt a o (ks.zip xs)) G (ks.map fun k => .tuple .mad (k.map keyD)) := by
  intro G' H' g gh
  have W := walk_keysT (d := a) (o := o) (kvs := ks.zip xs)
  have hh : H' a = some (.frz o (.dT (ks.zip xs))) := gh _ _ (g _ _ h)
  have ln : (ks.map fun k => D.tuple .mad (k.map keyD)).length = (ks.zip xs).length := by simp [hl]
  refine ⟨fun i hi => W.goes i H' (by omega) hh, ln ▸ W.stops H' hh, fun i x H3 hi y => ?_⟩
  obtain ⟨rfl, k, v, p, hx, rfl, hp⟩ := W.yields i H' x H3 (by omega) hh y
  have rk : ∀ {G : Hp} (k : List Key), RpAll K G (k.map kV) (k.map keyD) := fun {G} k => by
    induction k with
    | nil => exact .nil
    | cons q r ih => exact .cons (by cases q with | inl n => exact .int n | inr x => exact .str x) ih
  have gx : (ks.map fun k => D.tuple .mad (k.map keyD))[i]? = some (.tuple .mad (k.map keyD)) := by
    rw [List.getElem?_map]
    have : (ks.zip xs)[i]?.map Prod.fst = some k := by rw [hx]; rfl
    rw [← List.getElem?_map, List.map_fst_zip (by omega)] at this
    rw [this]; rfl
  cases gp : G' p with
  | some u =>
    have := gh _ _ gp
    rw [hp] at this
    cases this
    exact ⟨G', _, gh, .refl, gx, .tup gp (rk k)⟩
  | none =>
    refine ⟨upd G' p (.tup (k.map kV)), _, same_put gh hp, ⟨same_upd gp, fun _ _ _ e => e, fun b u _ e g t => ?_, fun _ e => e⟩, gx, .tup upd_same (rk k)⟩
    by_cases z : b = p
    · subst z; rw [hp] at e; cases e; cases t
    · rw [upd_ne z]; exact g
theorem rp_key {G : Hp} {v : V} {d : D} {k : Key} (h : keyOf d = some k) (r : Rp K G v d) : v = kV k := by
  have := keyOf_inv h
  subst this
  cases k with
  | inl n => cases r; rfl
  | inr x => cases r; rfl
def mDcL (mg : MG) (mt : MT) (mk me : ME) (vs : List Nat) (k : List (D × D) → Cs → Prop) : List D → List (D × D) → Cs → Prop
  | [], acc, ρ => k acc ρ
  | x :: r, acc, ρ => mg x ρ fun ρ1 => mt ρ1 fun b ρ2 => if b = true then mk ρ2 fun dk ρ3 => me ρ3 fun d ρ4 => match keyOf dk with
      | some q => mDcL mg mt mk me vs k r (putKs acc (.inl q) dk d) (wipeC ρ4 vs)
      | none => False
    else mDcL mg mt mk me vs k r acc (wipeC ρ2 vs)
def mKeys (i : Nat) : MI := fun ρ k => match ρ[i]? with
  | some (.fro (.dict ps)) => k (ps.map (·.1)) ρ
  | _ => False
def mDc (wi : MI) (mg : MG) (mt : MT) (mk me : ME) (vs : List Nat) : ME := fun ρ k => wi ρ fun xs ρ1 => mDcL mg mt mk me vs (fun ds ρ2 => k (.dict ds) ρ2) xs [] (wipeC ρ1 vs)
theorem mo_dcL {mg : MG} {mt : MT} {mk me : ME} {vs : List Nat} (hg : ∀ d ρ (k k' : Cs → Prop), (∀ ρ', k ρ' → k' ρ') → mg d ρ k → mg d ρ k') (ht : Mo mt) (hk : Mo mk) (he : Mo me) {k k' : List (D × D) → Cs → Prop} (w : ∀ d ρ', k d ρ' → k' d ρ') : ∀ (xs : List D) (acc : List (D × D)) (ρ : Cs), mDcL mg mt mk me vs k xs acc ρ → mDcL mg mt mk me vs k' xs acc ρ
  | [], acc, ρ, h => w _ _ h
  | x :: r, acc, ρ, h => hg _ _ _ _ (fun ρ1 => ht ρ1 _ _ fun b ρ2 q => by
    cases b
    · exact mo_dcL hg ht hk he w r acc _ q
    · refine hk ρ2 _ _ (fun dk ρ3 => he ρ3 _ _ fun d ρ4 q => ?_) q
      revert q
      cases keyOf dk with
      | none => exact id
      | some z => exact mo_dcL hg ht hk he w r _ _) h
theorem len_putKs {ps : List (D × D)} {k : Key ⊕ List Key} {a v : D} : (putKs ps k a v).length ≤ ps.length + 1 := by
  unfold putKs
  split <;> simp
theorem ob_len {G : Hp} {kvs : List (Key × V)} {acc : List (D × D)} (h : ObR K G (.dK kvs) (.dict acc)) : kvs.length = acc.length := by
  cases h with
  | dK l a => have := rps_len a; simp; omega
theorem ob_put {G : Hp} {kvs : List (Key × V)} {acc : List (D × D)} {k : Key} {v : V} {d : D} (h : ObR K G (.dK kvs) (.dict acc)) (r : Rp K G v d) : ObR K G (.dK (putK kvs k v)) (.dict (putKs acc (.inl k) (keyD k) d)) := by
  cases h with
  | dK l a => exact put_K l a r
theorem dc_run {J : It} {g : TG} {mg : MG} {mt : MT} {mk me : ME} {vs ts : List Nat} (sg : SG K 0 ts g mg) (hts : ∀ t ∈ ts, t ∈ vs) (ht : Mo mt) (hk : Mo mk) (he : Mo me) {σ : L2.St} {G H : Hp} {ρ : Cs} {xs : List D} {Q : VK} (R : Rel K σ G H ρ) (wk : Wk K J G xs) (hsz : xs.length ≤ sizeLine)
    (q : mDcL mg mt mk me vs (fun ds ρ2 => ∀ v G' H', Rel K σ G' H' ρ2 → Lk 0 σ G H ρ σ G' H' ρ2 → fF K H σ ρ2 G' H' v (.dict ds) → Q v H') xs [] (wipeC ρ vs)) (L : Addr) (hL : H L = none) :
    ∃ W : Nat → Nat → Hp → Prop, (∃ m, W 0 m (upd H L (.dK []))) ∧ ∀ i m H, W i m H → (J.stop i H ∧ Q (.ref L) H) ∨ (J.go i H ∧ ∃ Nx : Hp → Prop, (∀ H', Nx H' → ∃ m', m' < m ∧ W (i + 1) m' H') ∧ ∀ x H', J.yld i H x H' → g x (wipe σ vs) H' fun σ2 H2 => wipe σ2 vs = wipe σ vs ∧ tT K mt σ2 H2 fun b H3 =>
      if b = true then tE K (fE K) mk σ2 H3 fun y H4 => tE K (fE K) me σ2 H4 fun z H5 => ∃ kvs k, y = kV k ∧ H5 L = some (.dK kvs) ∧ kvs.length < sizeLine ∧ Nx (upd H5 L (.dK (putK kvs k z))) else Nx H3) := by
  have nG : G L = none := R.gh.free hL
  have nw : ¬ Ow (wipe σ vs) (wipeC ρ vs) L := fun w => (R.wipe vs).old w hL
  have l1 : Lk 0 σ G H ρ σ G H ρ := .refl
  refine ⟨fun i k H' => k = xs.length - i ∧ i ≤ xs.length ∧ ∃ G' ρ' acc kvs, Rel K (wipe σ vs) G' H' (wipeC ρ' vs) ∧ Same G G' ∧ Lk 0 σ G H ρ (wipe σ vs) G' H' (wipeC ρ' vs) ∧ H' L = some (.dK kvs) ∧ G' L = none ∧ ¬ Ow (wipe σ vs) (wipeC ρ' vs) L ∧ ObR K G' (.dK kvs) (.dict acc) ∧ acc.length ≤ i ∧
    mDcL mg mt mk me vs (fun ds ρ2 => ∀ v G' H', Rel K σ G' H' ρ2 → Lk 0 σ G H ρ σ G' H' ρ2 → fF K H σ ρ2 G' H' v (.dict ds) → Q v H') (xs.drop i) acc (wipeC ρ' vs),
    ⟨_, rfl, Nat.zero_le _, G, ρ, [], [], (R.wipe vs).poke nG nw, .refl _, (l1.wipe vs).poke hL, upd_same, nG, nw, (ObR.dK (ks := []) (xs := []) (ds := []) rfl .nil), Nat.zero_le _, q⟩, ?_⟩
  rintro i k H2 ⟨rfl, hle, G2, ρ2, acc, kvs, R2, g2, l2, hL2, nG2, nw2, ra, hacc, q2⟩
  obtain ⟨w1, w2, w3⟩ := wk G2 H2 g2 R2.gh
  by_cases hlt : i < xs.length
  · refine .inr ⟨w1 i hlt, fun H' => ∃ G' ρ' acc kvs, Rel K (wipe σ vs) G' H' (wipeC ρ' vs) ∧ Same G G' ∧ Lk 0 σ G H ρ (wipe σ vs) G' H' (wipeC ρ' vs) ∧ H' L = some (.dK kvs) ∧ G' L = none ∧ ¬ Ow (wipe σ vs) (wipeC ρ' vs) L ∧ ObR K G' (.dK kvs) (.dict acc) ∧ acc.length ≤ i + 1 ∧
      mDcL mg mt mk me vs (fun ds ρ2 => ∀ v G' H', Rel K σ G' H' ρ2 → Lk 0 σ G H ρ σ G' H' ρ2 → fF K H σ ρ2 G' H' v (.dict ds) → Q v H') (xs.drop (i + 1)) acc (wipeC ρ' vs), fun H' z => ⟨xs.length - (i + 1), by omega, rfl, hlt, z⟩, fun x H3 y => ?_⟩
    obtain ⟨G3, dx, gh3, st3, hx, rx⟩ := w3 i x H3 hlt y
    have R3 := R2.pure st3 gh3
    have l3 := l2.trans (Lk.pure (n := 0) (ρ := wipeC ρ2 vs) (σ := wipe σ vs) st3)
    have hL3 : H3 L = some (.dK kvs) := st3.hh L _ (fun z => z) hL2
    have nG3 : G3 L = none := st3.fr L _ (fun z => z) hL2 nG2 rfl
    have e : xs.drop i = dx :: xs.drop (i + 1) := by
      rw [List.drop_eq_getElem_cons hlt]
      rw [List.getElem?_eq_getElem hlt] at hx
      rw [Option.some.inj hx]
    rw [e] at q2
    refine sg.run (wipe σ vs) G3 H3 (wipeC ρ2 vs) x dx _ R3 rx (sg.mono _ _ _ _ (fun ρ4 q4 σ4 R4 l4 c4 => ?_) q2)
    have ew : wipe σ4 vs = wipe σ vs := (c4.wipe hts).trans wipe_wipe
    refine ⟨ew, G3, ρ4, R4, ht ρ4 _ _ (fun b ρ5 q5 G5 H5 R5 l5 => ?_) q4⟩
    have own4 : ¬ Ow σ4 ρ4 L := fun w => by
      rcases l4.sb L w with z | z
      · exact nw2 z
      · rw [hL3] at z; cases z
    have hL5 : H5 L = some (.dK kvs) := l5.st.hh L _ own4 hL3
    have nG5 : G5 L = none := l5.st.fr L _ own4 hL3 nG3 rfl
    have l05 := l3.trans (l4.trans l5)
    cases b
    · have z : Lk 0 (wipe σ vs) G3 H3 (wipeC ρ2 vs) (wipe σ4 vs) G5 H5 (wipeC ρ5 vs) := (l4.trans l5).wipe vs
      have RR := R5.wipe vs
      have LL := l05.wipe vs
      rw [ew] at RR LL z
      refine ⟨G5, ρ5, acc, kvs, RR, (g2.trans st3.gg).trans l5.st.gg, LL, hL5, nG5, fun w => ?_, ob_same (st3.gg.trans l5.st.gg) ra, by omega, q5⟩
      rcases z.sb L w with z | z
      · exact nw2 z
      · rw [hL3] at z; cases z
    · refine ⟨G5, ρ5, R5, hk ρ5 _ _ (fun dk ρ6 q6 y G6 H6 R6 l6 ry => ⟨G6, ρ6, R6, he ρ6 _ _ (fun d ρ7 q7 v G7 H7 R7 l7 rv => ?_) q6⟩) q5⟩
      have own5 : ¬ Ow σ4 ρ5 L := fun w => by
        rcases l5.sb L w with z | z
        · exact own4 z
        · rw [hL3] at z; cases z
      have l67 := l6.trans l7
      have hL7 : H7 L = some (.dK kvs) := l67.st.hh L _ own5 hL5
      have nG7 : G7 L = none := l67.st.fr L _ own5 hL5 nG5 rfl
      revert q7
      cases ek : keyOf dk with
      | none => exact fun z => z.elim
      | some kk =>
        intro q7
        have la := ob_len ra
        refine ⟨kvs, kk, rp_key ek ry, hL7, by omega, ?_⟩
        have z : Lk 0 (wipe σ vs) G3 H3 (wipeC ρ2 vs) (wipe σ4 vs) G7 H7 (wipeC ρ7 vs) := ((l4.trans l5).trans l67).wipe vs
        have RR := R7.wipe vs
        have LL := (l05.trans l67).wipe vs
        rw [ew] at RR LL z
        have nw7 : ¬ Ow (wipe σ vs) (wipeC ρ7 vs) L := fun w => by
          rcases z.sb L w with z | z
          · exact nw2 z
          · rw [hL3] at z; cases z
        have lp := len_putKs (ps := acc) (k := .inl kk) (a := dk) (v := d)
        have ob := ob_put (k := kk) (ob_same ((st3.gg.trans l5.st.gg).trans l67.st.gg) ra) rv
        rw [← keyOf_inv ek] at ob
        exact ⟨G7, ρ7, _, _, RR.poke nG7 nw7, ((g2.trans st3.gg).trans l5.st.gg).trans l67.st.gg, LL.poke hL, upd_same, nG7, nw7, ob, by omega, q7⟩
  · have e : i = xs.length := by omega
    subst e
    rw [List.drop_length] at q2
    obtain ⟨Rf, of⟩ := R2.unwipe
    exact .inl ⟨w2, q2 _ G2 H2 Rf ⟨l2.st, fun p w => l2.sb p (of p w), fun _ h => absurd h (Nat.not_lt_zero _)⟩ ⟨L, _, rfl, hL, fun w => nw2 (of L w), hL2, nG2, ra⟩⟩
theorem t_dc {g : TG} {mg : MG} {mt : MT} {mk me : ME} {vs ts : List Nat} {i : Nat} (sg : SG K 0 ts g mg) (hts : ∀ t ∈ ts, t ∈ vs) (ht : Mo mt) (hk : Mo mk) (he : Mo me) (σ : L2.St) (H : Hp) (Q : VK) (h : tEL K i (mDc (mKeys i) mg mt mk me vs) σ H Q) :
    tDc (iKeys (tVar i)) g (tT K mt) (tE K (fE K) mk) (tE K (fE K) me) vs σ H Q := by
  obtain ⟨G, ρ, R, ⟨a, o, u, hv, ga, hd, hz⟩, h⟩ := h
  unfold mDc mKeys at h
  split at h
  · rename_i ps ei
    obtain ⟨v, hv', r⟩ := R.fro i _ ei
    rw [hv] at hv'
    cases hv'
    refine ⟨_, hv, a, o, rfl, ?_⟩
    cases r with
    | @dK _ ks xs ds s l ra =>
      have e : u = .dK (ks.zip xs) := by
        rcases s with s | ⟨o', s⟩
        · rw [ga] at s; cases s
        · rw [ga] at s; cases s; rfl
      subst e
      have ln := rps_len ra
      rw [List.map_fst_zip (by simp; omega)] at h
      have hz' : (ks.zip xs).length ≤ sizeLine := hz
      exact .inl ⟨_, R.gh _ _ ga, dc_run sg hts ht hk he R (wk_keys l ga) (by simp at hz' ⊢; omega) h⟩
    | @dT _ ks xs ds s l ra =>
      have e : u = .dT (ks.zip xs) := by
        rcases s with s | ⟨o', s⟩
        · rw [ga] at s; cases s
        · rw [ga] at s; cases s; rfl
      subst e
      have ln := rps_len ra
      rw [List.map_fst_zip (by simp; omega)] at h
      have hz' : (ks.zip xs).length ≤ sizeLine := hz
      exact .inr ⟨_, R.gh _ _ ga, dc_run sg hts ht hk he R (wk_keysT l ga) (by simp at hz' ⊢; omega) h⟩
  · exact h.elim
/-- {k: v for x in d if ..}, d a name -/
theorem se_dc {kx vx tg e : Expr} {ifs : List Expr} {scope : Scope} {own : List (Str × Nat)} {pos : Pos} {i : Nat} {g : TG} {mg : MG} {mt : MT} {mk me : ME} {ts : List Nat} (hc : X.calm = true) (hN : X.N.Nodup) (hi : PE X e (tVar i)) (ok : BlkOk X.N X.env.scope scope own)
    (hg : ∀ (s : Shared) (H : Hp) (C : Addr) (cl : List (Str × Addr)) (fp : List Addr), PG (X.blk s H scope (compEnvC scope cl C X.env) fp) tg g) (sg : SG K 0 ts g mg) (hts : ∀ t ∈ ts, t ∈ own.map (·.2))
    (ht : ∀ (s : Shared) (H : Hp) (C : Addr) (cl : List (Str × Addr)) (fp : List Addr), STs K (X.blk s H scope (compEnvC scope cl C X.env) fp) ifs mt)
    (hk : ∀ (s : Shared) (H : Hp) (C : Addr) (cl : List (Str × Addr)) (fp : List Addr), SE K (fE K) (X.blk s H scope (compEnvC scope cl C X.env) fp) kx mk)
    (he : ∀ (s : Shared) (H : Hp) (C : Addr) (cl : List (Str × Addr)) (fp : List Addr), SE K (fE K) (X.blk s H scope (compEnvC scope cl C X.env) fp) vx me) (hs : ∀ x, foldedSetIterable e X.env x = pure x := by intro _; rfl) :
    SE K (fF K) X (.DictComp kx vx [⟨tg, e, ifs, 0⟩] scope pos) (mLk i (mDc (mKeys i) mg mt mk me (own.map (·.2)))) := by
  have mt' := (ht X.s_0 X.H_0 0 [] []).mono
  have mk' := (hk X.s_0 X.H_0 0 [] []).mono
  have me' := (he X.s_0 X.H_0 0 [] []).mono
  refine se_locked (fun ρ k k' w => ?_) (pe_weak (pe_dc hc hN (pi_keys hi) ok hg (fun s H C cl fp => (ht s H C cl fp).pts) (fun s H C cl fp => (hk s H C cl fp).pe) (fun s H C cl fp => (he s H C cl fp).pe) hs) (t_dc sg hts mt' mk' me'))
  unfold mDc mKeys
  split
  · exact fun q => mo_dcL sg.mono mt' mk' me' (fun ds ρ2 => w _ ρ2) _ [] _ q
  · exact id
end
end Dl

set_option Elab.async false
set_option linter.all false
set_option maxRecDepth 100000
set_option maxHeartbeats 4000000
/-! Calls by names in any order; two dicts of ints and texts that are equal. -/
namespace Dl
open PySem PySem.Spec PyProof.Rows L2 Br
/-- the values in another order -/
def perm {α : Type} (is : List Nat) (xs : List α) : List α := is.filterMap (xs[·]?)
theorem vals_get {vs : List V} {us : List Value} {i : Nat} (r : Vals vs us) : (vs[i]? = none ∧ us[i]? = none) ∨ ∃ v u, vs[i]? = some v ∧ us[i]? = some u ∧ RelV v u := by
  cases h : vs[i]? with
  | some v =>
    obtain ⟨u, h1, h2⟩ := r.get h
    exact .inr ⟨v, u, rfl, h1, h2⟩
  | none =>
    refine .inl ⟨rfl, ?_⟩
    rw [List.getElem?_eq_none_iff] at h ⊢
    rw [← r.length]; exact h
theorem vals_perm {vs : List V} {us : List Value} (r : Vals vs us) : ∀ is : List Nat, Vals (perm is vs) (perm is us)
  | [] => .nil
  | i :: is => by
    have ih := vals_perm r is
    unfold perm at ih ⊢
    rcases vals_get (i := i) r with ⟨h1, h2⟩ | ⟨v, u, h1, h2, h3⟩
    · rw [List.filterMap_cons_none h1, List.filterMap_cons_none h2]; exact ih
    · rw [List.filterMap_cons_some h1, List.filterMap_cons_some h2]; exact .cons h3 ih
theorem rps_perm {K : PySem.W.Frag} {G : Hp} {vs : List V} {ds : List D} (r : RpAll K G vs ds) : ∀ is : List Nat, RpAll K G (perm is vs) (perm is ds)
  | [] => .nil
  | i :: is => by
    have ih := rps_perm r is
    unfold perm at ih ⊢
    cases h : vs[i]? with
    | some v =>
      obtain ⟨d, h1, h2⟩ := rps_get r h
      rw [List.filterMap_cons_some h, List.filterMap_cons_some h1]; exact .cons h2 ih
    | none =>
      have h1 : ds[i]? = none := by
        rw [List.getElem?_eq_none_iff] at h ⊢
        rw [← rps_len r]; exact h
      rw [List.filterMap_cons_none h, List.filterMap_cons_none h1]; exact ih
structure SK (K : PySem.W.Frag) (X : Cx) (kws : List Keyword) (m : MA) : Prop where
  mono : Mo m
  pk : PK X kws (tA K m)
section
variable {K : PySem.W.Frag} {X : Cx}
theorem pk_weak {kws : List Keyword} {t t' : TA} (h : PK X kws t) (w : ∀ σ H Q, t' σ H Q → t σ H Q) : PK X kws t' := ⟨fun pos pins s σ H Q I q => h.run pos pins s σ H Q I (w σ H Q q)⟩
theorem sk_nil : SK K X [] aNil := ⟨fun ρ k k' w => w _ _, pk_weak pk_nil fun σ H Q ⟨G, ρ, R, q⟩ => q [] G H R .refl .nil⟩
theorem sk_cons {e : Expr} {kws : List Keyword} {ma : ME} {mr : MA} {nm : Option Str} {kpos : Pos} (h : SE K (fE K) X e ma) (g : SK K X kws mr) : SK K X (⟨nm, e, kpos⟩ :: kws) (aCons ma mr) :=
  ⟨mo_cons h.mono g.mono, pk_weak (pk_cons h.pe g.pk) (t_cons h.mono g.mono)⟩
def mCallK (F : Fs) (is : List Nat) (ma : MA) : ME := fun ρ k => ma ρ fun ds ρ1 => ds.length = is.length ∧ F ((perm is ds).map .fro) fun d _ => k d ρ1
/-- f(k = e, ..), the names in any order -/
theorem se_callK {F : Fs} {k j : Nat} {f : Addr} {fd : FuncData} {ps ks : List Str} {is : List Nat} {x : Str} {p pos : Pos} {kws : List Keyword} {ma : MA} (Fn : FnD X.prog X.w K X.mg X.base j f fd ps 0 F) (hK : X.K = K) (hG : Bare X.A) (hr : Room k X.A) (hj : j ≤ k) (hg : Gl X x) (hm : X.mg x = some (.ref f)) (hk : PySem.W.keepIn K (.ref f) = true)
    (hb : ∀ (s : Shared) (ws : List Value), ws.length = ps.length → BindsTo s fd ⟨[], ks.zip ws⟩ (ps.zip (perm is ws))) (hil : is.length = ps.length) (hkw : SK K X kws ma) (hall : (backToKw pos (keywordEach kws X.env)).all (·.1.isSome) = true := by rfl) (hks : (backToKw pos (keywordEach kws X.env)).filterMap (·.1) = ks := by rfl)
    (hdb : (x == ("__debug__" : Str)) = false := by decide) (hpl : ((backTo pos (starEach [] X.env)).any (·.1) || (backToKw pos (keywordEach kws X.env)).any (·.1.isNone)) = false := by rfl) :
    SE K (fE K) X (.Call (.Name x p) [] kws pos) (mCallK F is ma) := by
  subst hK
  refine ⟨fun ρ k k' w => hkw.mono ρ _ _ fun ds ρ1 q => ⟨q.1, Fn.mo _ _ _ (fun d _ => w _ _) q.2⟩, ⟨fun pins s σ H Q I ⟨G, ρ, R, q⟩ => ?_⟩⟩
  refine wpAny_Call_Name_kw (ld_glob I hg hm ?_ hdb)
  refine PySem.W.callWith_KW0 (h₀ := X.base) I.ok.mod.kin hk hall (thn (hkw.pk.run pos pins s σ H (fun zs H1 => ∃ G1 ds ρ1, Rel X.K σ G1 H1 ρ1 ∧ Lk 0 σ G H ρ σ G1 H1 ρ1 ∧ RpAll X.K G1 zs ds ∧ ds.length = is.length ∧ F ((perm is ds).map .fro) fun d _ => ∀ v G' H', Rel X.K σ G' H' ρ1 → Lk 0 σ G H ρ σ G' H' ρ1 → Rp X.K G' v d → Q v H') I ⟨G, ρ, R, hkw.mono ρ _ _ (fun ds ρ1 q vs G1 H1 R1 l1 rs => ⟨G1, ds, ρ1, R1, l1, rs, q.1, q.2⟩) q⟩) fun ws s1 hh => ?_) hpl
  obtain ⟨zs, H1, I1, r, G1, ds, ρ1, R1, l1, rs, hl, q⟩ := hh
  refine ⟨I1.kIn, ?_⟩
  rw [hks]
  have hwl : ws.length = ps.length := by rw [← r.length, rps_len rs, hl, hil]
  refine run_g Fn.ok hG (hr.mono hj) (E := fun _ _ _ => False) pass0 I1 (hb s1 ws hwl) (vals_perm r is) ?_
  have rp := rps_perm rs is
  refine ⟨?_, G1, (perm is ds).map .fro, ⟨R1.gh, ?_, fun i d e => ?_, fun i d e => ?_, fun i j p d e h => ?_⟩, Fn.mo _ _ _ (fun d _ q v G' H' gh R' st rv => ?_) q⟩
  · rw [rps_len rp]
    have := Fn.ln _ _ q
    rw [List.length_map] at this
    exact this
  · rw [List.length_map, List.length_map, rps_len rp]
  · rw [List.getElem?_map] at e
    cases z : (perm is ds)[i]? with
    | none => rw [z] at e; cases e
    | some d' =>
      rw [z] at e
      cases e
      obtain ⟨v, h1, h2⟩ := rps_get' rp z
      exact ⟨v, by rw [List.getElem?_map, h1]; rfl, h2⟩
  · rw [List.getElem?_map] at e
    cases z : (perm is ds)[i]? with
    | none => rw [z] at e; cases e
    | some d' => rw [z] at e; cases e
  · rw [List.getElem?_map] at h
    cases z : (perm is ds)[i]? with
    | none => rw [z] at h; cases h
    | some d' => rw [z] at h; cases h
  · have sp : Stp Pure G1 H1 G' H' := st.weak fun a ⟨i, d, h, _⟩ => by
      rw [List.getElem?_map] at h
      cases z : (perm is ds)[i]? with
      | none => rw [z] at h; cases h
      | some d' => rw [z] at h; cases h
    exact q v G' H' (R1.pure sp gh) (l1.trans (Lk.pure sp)) rv
end
/-! ### two dicts that are equal -/
def eqDD (ps qs : List (D × D)) : Prop := ps.length = qs.length ∧ ∀ p ∈ ps, flatD p.2 = true ∧ isTupD p.1 = false ∧ dLook qs p.1 = some p.2
def oDD (neg : Bool) : O2 := fun a b k => match a, b with
  | .dict ps, .dict qs => eqDD ps qs ∧ k (.bool (!neg))
  | _, _ => False
theorem mo_DD {neg : Bool} : Mo2 (oDD neg) := fun a b k k' w h => by
  unfold oDD at h ⊢
  split at h
  · exact ⟨h.1, w _ h.2⟩
  · exact h.elim
theorem flat_rp {K : PySem.W.Frag} {G : Hp} {v w : V} {d : D} (h : flatD d = true) (r : Rp K G v d) (r' : Rp K G w d) : v = w ∧ flatB v = true := by
  cases d with
  | none => cases r; cases r'; exact ⟨rfl, rfl⟩
  | bool b => cases r; cases r'; exact ⟨rfl, rfl⟩
  | int i => cases r; cases r'; exact ⟨rfl, rfl⟩
  | str s => cases r; cases r'; exact ⟨rfl, rfl⟩
  | _ => cases h
theorem dd_hits {K : PySem.W.Frag} {G : Hp} {ks ls : List Key} {xs ys : List V} {ds es : List D} (hl : ks.length = xs.length) (ra : RpAll K G xs ds) (hl' : ls.length = ys.length) (rb : RpAll K G ys es) (h : ∀ p ∈ (ks.map keyD).zip ds, flatD p.2 = true ∧ isTupD p.1 = false ∧ dLook ((ls.map keyD).zip es) p.1 = some p.2) :
    ∀ p ∈ ks.zip xs, valV (ls.zip ys) p.1 = some p.2 ∧ flatB p.2 = true := by
  intro p hp
  obtain ⟨i, hi⟩ := List.mem_iff_getElem?.mp hp
  obtain ⟨k, v⟩ := p
  rw [List.getElem?_zip_eq_some] at hi
  obtain ⟨d, hd, rd⟩ := rps_get ra hi.2
  have m : (keyD k, d) ∈ (ks.map keyD).zip ds := List.mem_iff_getElem?.mpr ⟨i, by
    rw [List.getElem?_zip_eq_some]
    exact ⟨by rw [List.getElem?_map, hi.1]; rfl, hd⟩⟩
  obtain ⟨f, _, lk⟩ := h _ m
  have lk' : look kOf (.inl k) ((ls.map keyD).zip es) = some d := by
    have : dLook ((ls.map keyD).zip es) (keyD k) = look kOf (.inl k) ((ls.map keyD).zip es) := by unfold dLook; rw [kOf_D]
    rw [← this]; exact lk
  rcases look_K (k := k) hl' rb with ⟨w, e, h1, h2, h3⟩ | ⟨_, h2⟩
  · rw [lk'] at h2
    cases h2
    obtain ⟨rfl, fb⟩ := flat_rp f rd h3
    exact ⟨h1, fb⟩
  · rw [lk'] at h2; cases h2
section
variable {K : PySem.W.Frag} {X : Cx}
theorem dd_run {neg : Bool} {op : CmpOp} (hop : (op = .Eq ∧ neg = false) ∨ (op = .NotEq ∧ neg = true)) (hK : X.K = K) (hu : X.A.units < cLine) : Cmp K X op (oDD neg) := by
  subst hK
  refine ⟨mo_DD, fun pins s σ H x y v u Q I rx ry h => ?_⟩
  obtain ⟨G, a, b, g, hx, hy, q⟩ := h
  unfold oDD at q
  split at q
  · rename_i ps qs
    obtain ⟨⟨hl, hp⟩, q⟩ := q
    cases ps with
    | nil =>
      obtain ⟨p, rfl, r1⟩ := raw_of I g hx
      obtain ⟨p2, rfl, r2⟩ := raw_of I g hy
      rw [← hl] at r2
      cases rx
      cases ry
      rcases hop with ⟨rfl, rfl⟩ | ⟨rfl, rfl⟩
      · exact raw_eq r1 r2 hu ⟨.bl _, H, I, rfl, stay g q (.bl _)⟩
      · exact raw_ne r1 r2 hu ⟨.bl _, H, I, rfl, stay g q (.bl _)⟩
    | cons p0 ps =>
      obtain ⟨pa, rfl, ca⟩ := vw_dict g hx
      obtain ⟨pb, rfl, cb⟩ := vw_dict g hy
      cases rx
      cases ry
      obtain ⟨f0, t0, l0⟩ := hp p0 List.mem_cons_self
      rcases ca with ⟨ks, xs, ds, rd, hk, ra, e⟩ | ⟨ks, xs, ds, rd, hk, ra, e⟩
      · rcases cb with ⟨ls, ys, es, rd', hk', ra', e'⟩ | ⟨ls, ys, es, rd', hk', ra', e'⟩
        · subst e'
          rw [e] at hp hl
          obtain ⟨_, ya, va, rva, da⟩ := dk_rd I.hok rd
          obtain ⟨_, yb, vb, rvb, db⟩ := dk_rd I.hok rd'
          have n1 := rps_len ra
          have n2 := rps_len ra'
          have e1 := rva.length
          have e2 := rvb.length
          have hl2 : va.length = vb.length := by
            rw [← e1, ← e2]
            simp at hl ⊢
            omega
          rcases hop with ⟨rfl, rfl⟩ | ⟨rfl, rfl⟩
          · exact PySem.W.keq_eq (knd := mixKind X.prog X.w) (r := true) ya yb da db hu (fun _ => hits_all rvb rva (dd_hits hk ra hk' ra' hp)) ⟨.bl true, H, I, by simp [hl2]; rfl, stay g q (.bl _)⟩
          · exact PySem.W.keq_ne (knd := mixKind X.prog X.w) (r := true) ya yb da db hu (fun _ => hits_all rvb rva (dd_hits hk ra hk' ra' hp)) ⟨.bl false, H, I, by simp [hl2]; rfl, stay g q (.bl _)⟩
        · subst e'
          have : p0 ∈ (ks.map keyD).zip ds := by rw [← e]; exact List.mem_cons_self
          obtain ⟨k0, hk0, e0⟩ := List.mem_map.mp (List.of_mem_zip (a := p0.1) (b := p0.2) this).1
          rw [← e0] at l0
          unfold dLook at l0
          rw [kOf_D] at l0
          exfalso
          revert l0
          generalize p0.2 = d0
          clear hl hp e hx hy rd' q
          intro l0
          have : ∀ (ls : List (List Key)) (es : List D), look kOf (.inl k0) ((ls.map fun k => D.tuple .mad (k.map keyD)).zip es) = none := by
            intro ls
            induction ls with
            | nil => intro es; rfl
            | cons q r ih =>
              intro es
              cases es with
              | nil => rfl
              | cons e es =>
                show (if kOf (.tuple .mad (q.map keyD)) = some (.inl k0) then some e else look kOf (.inl k0) ((r.map fun k => D.tuple .mad (k.map keyD)).zip es)) = none
                rw [kOf_T, if_neg (fun z => nomatch z)]
                exact ih es
          have l1 : look kOf (.inl k0) ((ls.map fun k => D.tuple .mad (k.map keyD)).zip es) = some d0 := l0
          rw [this ls es] at l1
          cases l1
      · exfalso
        have : p0 ∈ (ks.map fun k => D.tuple .mad (k.map keyD)).zip ds := by rw [← e]; exact List.mem_cons_self
        obtain ⟨k0, hk0, e0⟩ := List.mem_map.mp (List.of_mem_zip (a := p0.1) (b := p0.2) this).1
        rw [← e0] at t0
        cases t0
  · exact q.elim
theorem c_ddne (hK : X.K = K) (hu : X.A.units < cLine) : Cmp K X .NotEq (oDD true) := dd_run (.inr ⟨rfl, rfl⟩) hK hu
theorem c_ddeq (hK : X.K = K) (hu : X.A.units < cLine) : Cmp K X .Eq (oDD false) := dd_run (.inl ⟨rfl, rfl⟩) hK hu
end
end Dl

set_option Elab.async false
set_option linter.all false
set_option maxRecDepth 100000
set_option maxHeartbeats 4000000
/-! repr of a new list of data in which dicts may stand, but no lists. -/
namespace Dl
open PySem PySem.Spec PyProof.Rows L2 Br
mutual
/-- no list and no script within -/
def noL : D → Bool
  | .list _ => false
  | .scr _ => false
  | .tuple _ ds => noLs ds
  | .dict kvs => noLk kvs
  | _ => true
def noLs : List D → Bool
  | [] => true
  | d :: ds => noL d && noLs ds
def noLk : List (D × D) → Bool
  | [] => true
  | (a, b) :: r => noL a && noL b && noLk r
end
theorem noLk_zip : ∀ {as bs : List D}, as.length = bs.length → noLk (as.zip bs) = true → noLs bs = true
  | [], [], _, _ => rfl
  | a :: as, b :: bs, h, q => by
    have q' : (noL a && noL b && noLk (as.zip bs)) = true := q
    simp only [Bool.and_eq_true] at q'
    show (noL b && noLs bs) = true
    rw [q'.1.2, noLk_zip (Nat.succ.inj h) q'.2]; rfl
theorem toPyKs_fst : ∀ ps : List (D × D), (toPyKs ps).map (·.1) = toPys (ps.map (·.1))
  | [] => rfl
  | (a, b) :: r => by show toPy a :: (toPyKs r).map (·.1) = toPy a :: toPys (r.map (·.1)); rw [toPyKs_fst r]
theorem toPyKs_snd : ∀ ps : List (D × D), (toPyKs ps).map (·.2) = toPys (ps.map (·.2))
  | [] => rfl
  | (a, b) :: r => by show toPy b :: (toPyKs r).map (·.2) = toPy b :: toPys (r.map (·.2)); rw [toPyKs_snd r]
section
variable {X : Cx} {pins : List (Addr × Obj)} {σ : L2.St} {H : Hp} {s : Shared}
theorem key_reads {h : Heap} {k : Key} {u : Value} (e : keyIs k u = true) : Reads h u (toPy (keyD k)) [] := by
  rcases keyIs_shape e with ⟨i, t, rfl, rfl⟩ | ⟨x, t, rfl, rfl⟩
  · exact .int i t
  · exact .str x t
theorem keys_reads {h : Heap} {P : Program} {w : World} : ∀ {es : List DictEntry} {kvs : List (Key × Value)}, Pairs (mixKind P w) es kvs → ReadsAll h (es.map (·.key)) (toPys ((kvs.map (·.1)).map keyD)) []
  | _, _, .nil => .nil
  | _, _, .cons h1 _ t => .cons (as := []) (bs := []) (key_reads h1) (keys_reads t)
theorem vals_of_pairs {P : Program} {w : World} : ∀ {es : List DictEntry} {kvs : List (Key × Value)}, Pairs (mixKind P w) es kvs → es.map (·.val) = kvs.map (·.2)
  | _, _, .nil => rfl
  | _, _, .cons _ h t => by rw [List.map_cons, List.map_cons, h, vals_of_pairs t]
theorem kv_vals {ks : List Key} : ∀ {xs : List V} {vs : List (Key × Value)}, KV (ks.zip xs) vs → ks.length = xs.length → Vals xs (vs.map (·.2)) ∧ vs.map (·.1) = ks := by
  induction ks with
  | nil =>
    intro xs vs r hl
    cases xs with
    | nil => cases r; exact ⟨.nil, rfl⟩
    | cons _ _ => cases hl
  | cons k ks ih =>
    intro xs vs r hl
    cases xs with
    | nil => cases hl
    | cons x xs =>
      cases r with
      | cons h t =>
        obtain ⟨a, b⟩ := ih t (Nat.succ.inj hl)
        exact ⟨.cons h.2 a, by rw [List.map_cons, b, ← h.1]⟩
theorem kt_vals {ks : List (List Key)} : ∀ {xs : List V} {vs : List (List Key × Addr × Value)}, KT H (ks.zip xs) vs → ks.length = xs.length → Vals xs (vs.map (·.2.2)) ∧ vs.map (·.1) = ks ∧ ∀ q ∈ vs, H q.2.1 = some (.tup (q.1.map kV)) := by
  induction ks with
  | nil =>
    intro xs vs r hl
    cases xs with
    | nil => cases r; exact ⟨.nil, rfl, fun _ z => nomatch z⟩
    | cons _ _ => cases hl
  | cons k ks ih =>
    intro xs vs r hl
    cases xs with
    | nil => cases hl
    | cons x xs =>
      cases r with
      | @cons p q ps qs h t =>
        obtain ⟨a, b, c⟩ := ih t (Nat.succ.inj hl)
        obtain ⟨e1, e2, e3⟩ := h
        refine ⟨.cons e3 a, by rw [List.map_cons, b, ← e1], fun q' hq => ?_⟩
        rcases List.mem_cons.mp hq with z | z
        · subst z
          have e1' : k = q'.1 := e1
          rw [← e1']; exact e2
        · exact c q' z
theorem flat_reads {h : Heap} : ∀ {k : List Key} {us : List Value}, Vals (k.map kV) us → ReadsAll h us (toPys (k.map keyD)) []
  | [], _, .nil => .nil
  | k :: ks, _, .cons r t => by
    refine .cons (as := []) (bs := []) ?_ (flat_reads t)
    cases k with
    | inl i => obtain ⟨t, rfl⟩ := r; exact .int i t
    | inr x => obtain ⟨t, rfl⟩ := r; exact .str x t
theorem tkeys_reads (I : Inv X pins σ H s) : ∀ {vs : List (List Key × Addr × Value)}, (∀ q ∈ vs, H q.2.1 = some (.tup (q.1.map kV))) → ReadsAll s.heap (vs.map fun q => Value.ref q.2.1) (toPys ((vs.map (·.1)).map fun k => D.tuple .mad (k.map keyD))) []
  | [], _ => .nil
  | q :: vs, h => by
    refine .cons (as := []) (bs := []) ?_ (tkeys_reads I fun p hp => h p (List.mem_cons_of_mem _ hp))
    obtain ⟨its, rv, ⟨o, ho, hc, n, hd⟩, _⟩ := I.tuple (SqT.of (h q List.mem_cons_self))
    exact .tuple ho hc hd (flat_reads rv)
mutual
theorem rp_reads (I : Inv X pins σ H s) : ∀ {v : V} {d : D}, Rp X.K H v d → noL d = true → ∀ u, RelV v u → ∃ as, Reads s.heap u (toPy d) as ∧ sysModules ∉ as
  | _, _, .non, _, u, r => by cases r; exact ⟨_, .none, List.not_mem_nil⟩
  | _, _, .bl b, _, u, r => by cases r; exact ⟨_, .bool b, List.not_mem_nil⟩
  | _, _, .int i, _, u, r => by obtain ⟨t, rfl⟩ := r; exact ⟨_, .int i t, List.not_mem_nil⟩
  | _, _, .str x, _, u, r => by obtain ⟨t, rfl⟩ := r; exact ⟨_, .str x t, List.not_mem_nil⟩
  | _, _, .lst _ _, h, _, _ => nomatch h
  | _, _, .scr _, h, _, _ => nomatch h
  | _, _, .tup q a, h, u, r => by
    cases r
    obtain ⟨its, rv, ⟨o, ho, hc, n, hd⟩, _⟩ := I.tuple (SqT.of q)
    obtain ⟨as, hr, ns⟩ := rps_reads I a h its rv
    exact ⟨_, .tuple ho hc hd hr, ns⟩
  | _, _, .tupC q a, h, u, r => by
    cases r
    obtain ⟨its, rv, ⟨o, ho, hc, n, hd⟩, _⟩ := I.tuple q
    obtain ⟨as, hr, ns⟩ := rps_reads I a h its rv
    exact ⟨_, .tuple ho hc hd hr, ns⟩
  | _, _, .tupZ q _ a, h, u, r => by
    cases r
    obtain ⟨its, rv, ⟨o, ho, hc, n, hd⟩, _⟩ := I.tuple (.inl (.inr ⟨_, q⟩))
    obtain ⟨as, hr, ns⟩ := rps_reads I a h its rv
    exact ⟨_, .tuple ho hc hd hr, ns⟩
  | _, _, .dK (ks := ks) (xs := xs) (ds := ds) q l a, h, u, r => by
    cases r
    have ln := rps_len a
    obtain ⟨_, ne, vs, rel, o, es, ep, h1, h2, h3, h4, h5, h6⟩ := dk_rd I.hok q
    obtain ⟨rv, ek⟩ := kv_vals rel l
    obtain ⟨as, hr, ns⟩ := rps_reads I a (noLk_zip (by simp; omega) h) _ rv
    refine ⟨_, .dict (as := []) (bs := as) h1 h2.1 h3 ?_ ?_, ?_⟩
    · rw [toPyKs_fst, List.map_fst_zip (by simp; omega), ← ek]
      exact keys_reads h5
    · rw [toPyKs_snd, List.map_snd_zip (by simp; omega), vals_of_pairs h5]
      exact hr
    · intro z
      rcases List.mem_append.mp z with z | z
      · rw [List.mem_singleton.mp z] at ne
        simp at ne
      · exact ns z
  | _, _, .dT (ks := ks) (xs := xs) (ds := ds) q l a, h, u, r => by
    cases r
    have ln := rps_len a
    obtain ⟨_, ne, vs, rel, o, es, ep, h1, h2, h3, h4, h5, h6⟩ := dt_rd I.hok q
    obtain ⟨rv, ek, ht⟩ := kt_vals rel l
    obtain ⟨as, hr, ns⟩ := rps_reads I a (noLk_zip (by simp; omega) h) _ rv
    refine ⟨_, .dict (as := []) (bs := as) h1 h2.1 h3 ?_ ?_, ?_⟩
    · rw [toPyKs_fst, List.map_fst_zip (by simp; omega), ← ek, h4, List.map_map]
      exact tkeys_reads I ht
    · rw [toPyKs_snd, List.map_snd_zip (by simp; omega), h4, List.map_map]
      exact hr
    · intro z
      rcases List.mem_append.mp z with z | z
      · rw [List.mem_singleton.mp z] at ne
        simp at ne
      · exact ns z
theorem rps_reads (I : Inv X pins σ H s) : ∀ {vs : List V} {ds : List D}, RpAll X.K H vs ds → noLs ds = true → ∀ us, Vals vs us → ∃ as, ReadsAll s.heap us (toPys ds) as ∧ sysModules ∉ as
  | _, _, .nil, _, us, r => by cases r; exact ⟨_, .nil, List.not_mem_nil⟩
  | _, _, .cons (d := d) (ds := ds) x t, h, us, r => by
    have h' : (noL d && noLs ds) = true := h
    simp only [Bool.and_eq_true] at h'
    cases r with
    | cons r1 r2 =>
      obtain ⟨as, q1, n1⟩ := rp_reads I x h'.1 _ r1
      obtain ⟨bs, q2, n2⟩ := rps_reads I t h'.2 _ r2
      exact ⟨_, .cons q1 q2, fun z => (List.mem_append.mp z).elim n1 n2⟩
end
end
/-! ### repr([..]) -/
def oReprL : O1 := fun d k => match d with
  | .list ds => noLs ds = true ∧ PyData.showableAll (toPys ds) = true ∧ PyData.depthAll (toPys ds) ≤ 58 ∧ (toPy (.list ds)).shown.length ≤ sizeLine ∧ k (.str (toPy (.list ds)).shown)
  | _ => False
theorem mo_reprL : Mo1 oReprL := fun a k k' w h => by
  unfold oReprL at h ⊢
  split at h
  · exact ⟨h.1, h.2.1, h.2.2.1, h.2.2.2.1, w _ h.2.2.2.2⟩
  · exact h.elim
theorem repr_listK {prog : Program} {w : World} {A : Around} {E : Value → Shared → Prop} {s : Shared} {Q : Value → Shared → Prop} {a : Addr} {o : Obj} {vs : Array Value} {n : Nat} {xs : List PyData} {as : List Addr} (h1 : s.heap.get? a = some o) (h2 : o.cls = .type "list") (h3 : o.data = .seq vs n) (h4 : ReadsAll s.heap vs.toList xs as) (hs : PyData.showableAll xs = true) (hsm : sysModules ∉ as) (hg : A.guards = some []) (hu : A.units + (PyData.depthAll xs + 2) < cLine) (hz : (PyData.list xs).shown.length ≤ sizeLine)
    (hQ : ∀ h' u tk, (∀ b o, s.heap.get? b = some o → h'.get? b = some o) → Q (.str (PyData.list xs).shown u) { s with heap := h', toks := tk }) : wpAny (model prog w) A (call (.builtin "repr") [.ref a]) Q E s := by
  have hz' : (listText (PyData.shownAll xs)).length ≤ sizeLine := by simpa only [PyData.shown] using hz
  obtain ⟨bs, hb, hk⟩ := ReprAllK.of_readsAll (prog := prog) (w := w) h4 hs (fun _ => hsm) (fun t ht => Nat.le_trans (listText_mem_le ht) hz')
  have hna : a ∉ bs := not_mem_of_deeper (.list h1 h2 h3 h4) (by simp only [PyData.depth]; omega) hb
  refine call_repr_slot (T := "list") (idr := "list.__repr__") (by omega) ⟨o, h1, h2⟩ F.slot_list_repr.toG ?_
  simp only [PyData.shown] at hQ
  obtain ⟨l⟩ := vs
  cases l with
  | nil =>
    have h4' : ReadsAll s.heap [] xs _ := h4
    cases h4'
    simp only [PyData.shownAll, listText_nil] at hQ
    exact call_list_repr_empty ⟨o, h1, h2⟩ h1 h3 ⟨_, _, rfl, hQ s.heap _ _ fun _ _ e => e⟩
  | cons x l =>
    exact call_list_reprK h1 h2 h3 hna (by simpa using hk.length_eq) (fun i y e => hk.item i y (by simpa using e)) hg (fun b _ => Clear.nil b) (by show A.units + 1 + _ < cLine; omega) (fun _ _ e => e) (fun h' u tk hk => ⟨_, _, rfl, hQ h' u tk hk⟩) hz'
section
variable {K : PySem.W.Frag} {X : Cx} {a : Expr} {ma : ME} {pos : Pos}
theorem callr_reprL (hu : X.A.units + 64 < cLine) (hG : Bare X.A) : CallR X (.builtin "repr") (fun xs H Q => ∃ x, xs = [x] ∧ rO1 X.K (pE X.K) oReprL x H Q) := by
  intro pins s σ H xs us Q I r h
  obtain ⟨x, rfl, G, d, g, hx, q⟩ := h
  have rx := vw_rp g hx
  unfold oReprL at q
  split at q
  · rename_i ds
    obtain ⟨h1, h2, h3, h4, q⟩ := q
    have fin : Q (.str (toPy (.list ds)).shown) H := stay g q (.str _)
    cases rx with
    | lst sq ra =>
      obtain ⟨u, rfl, ru⟩ := vals1 r
      cases (show u = Value.ref _ from ru)
      obtain ⟨its, rv, ⟨o, n, ho, hc, _, hd⟩, _⟩ := I.list (.inl sq)
      obtain ⟨as, hr, ns⟩ := rps_reads I ra h1 its rv
      refine repr_listK ho hc hd hr h2 ns hG (by omega) h4 fun h' u tk hk => ?_
      exact ⟨.str _, H, I.kept hk, ⟨_, rfl⟩, fin⟩
  · exact q.elim
theorem se_reprL {k : Nat} {p : Pos} (hK : X.K = K) (hG : Bare X.A) (hr : Room k X.A) (hg : Gl X "repr") (hm : X.mg "repr" = none) (ha : SE K (fV K) X a ma) (hs : starEach [a] X.env = [(false, eval a X.env)] := by rfl) (hpl : (backTo pos (starEach [] X.env)).any (·.1) = false := by rfl) :
    SE K (fE K) X (.Call (.Name "repr" p) [a] [] pos) (mUn oReprL ma) := by
  subst hK
  exact se_b1 (id := "repr") (callr_reprL hr.units hG) (fun y H Q h => ⟨y, rfl, h⟩) mo_reprL embE hg hm (by decide +kernel) ha hs (by decide) (by decide) hpl
end
end Dl

set_option Elab.async false
set_option linter.all false
set_option maxRecDepth 100000
set_option maxHeartbeats 4000000
/-! How large data are, as repr shows them. -/
namespace Dl
open PySem PySem.Spec PyProof.Rows L2 Br
/-- data without lists, at most m deep, of at most n signs and things -/
structure Wl (m n : Nat) (d : D) : Prop where
  nl : noL d = true
  sh : (toPy d).showable = true
  le : (toPy d).leavesShort 13 = true
  dp : (toPy d).depth ≤ m
  bk : (toPy d).bulk ≤ n
structure Wls (m n : Nat) (ds : List D) : Prop where
  nl : noLs ds = true
  sh : PyData.showableAll (toPys ds) = true
  le : PyData.leavesShortAll 13 (toPys ds) = true
  dp : PyData.depthAll (toPys ds) ≤ m
  bk : PyData.bulkAll (toPys ds) ≤ n
structure Wlk (m n : Nat) (ps : List (D × D)) : Prop where
  nl : noLk ps = true
  sh : PyData.showableKv (toPyKs ps) = true
  le : PyData.leavesShortKv 13 (toPyKs ps) = true
  dp : PyData.depthKv (toPyKs ps) ≤ m
  bk : PyData.bulkKv (toPyKs ps) ≤ n
theorem Wl.mono {m n m' n' : Nat} {d : D} (h : Wl m n d) (a : m ≤ m') (b : n ≤ n') : Wl m' n' d := ⟨h.nl, h.sh, h.le, Nat.le_trans h.dp a, Nat.le_trans h.bk b⟩
theorem Wls.mono {m n m' n' : Nat} {d : List D} (h : Wls m n d) (a : m ≤ m') (b : n ≤ n') : Wls m' n' d := ⟨h.nl, h.sh, h.le, Nat.le_trans h.dp a, Nat.le_trans h.bk b⟩
theorem wl_none {m n : Nat} : Wl m n .none := ⟨rfl, rfl, rfl, Nat.zero_le _, Nat.zero_le _⟩
/-- plain signs -/
def okSt (x : Str) : Prop := ∀ c ∈ x.cps.toList, c < 1114112
theorem wl_str {m n : Nat} {x : Str} (ok : okSt x) (h : x.length ≤ n) : Wl m n (.str x) :=
  ⟨rfl, rfl, List.all_eq_true.mpr fun c hc => decide_eq_true (Nat.lt_trans (ok c hc) (by decide)), Nat.zero_le _, h⟩
theorem wl_int {m n : Nat} {i : Int} (h : i.natAbs < 10 ^ 12) : Wl m n (.int i) := by
  refine ⟨rfl, ?_, ?_, Nat.zero_le _, Nat.zero_le _⟩
  · show decide (i.natAbs.log2 < 1920) = true
    refine decide_eq_true ?_
    by_cases z : i.natAbs = 0
    · rw [z]; decide
    · exact (Nat.log2_lt z).mpr (Nat.lt_of_lt_of_le h (by decide +kernel))
  · show decide ((PyData.shown (.int i)).length ≤ 13) = true
    exact decide_eq_true (PyData.shown_int_le h)
theorem wls_nil {m : Nat} : Wls m 0 [] := ⟨rfl, rfl, rfl, Nat.zero_le _, Nat.le_refl _⟩
theorem wls_cons {m n k : Nat} {d : D} {ds : List D} (h : Wl m n d) (r : Wls m k ds) : Wls m (n + 1 + k) (d :: ds) := by
  refine ⟨?_, ?_, ?_, ?_, ?_⟩
  · show (noL d && noLs ds) = true
    rw [h.nl, r.nl]; rfl
  · show (PyData.showable (toPy d) && PyData.showableAll (toPys ds)) = true
    rw [h.sh, r.sh]; rfl
  · show (PyData.leavesShort 13 (toPy d) && PyData.leavesShortAll 13 (toPys ds)) = true
    rw [h.le, r.le]; rfl
  · show max (PyData.depth (toPy d)) (PyData.depthAll (toPys ds)) ≤ m
    exact Nat.max_le.mpr ⟨h.dp, r.dp⟩
  · show PyData.bulk (toPy d) + 1 + PyData.bulkAll (toPys ds) ≤ n + 1 + k
    have := h.bk
    have := r.bk
    omega
theorem wls_all {m n : Nat} : ∀ {ds : List D}, (∀ d ∈ ds, Wl m n d) → Wls m (ds.length * (n + 1)) ds
  | [], _ => by rw [List.length_nil, Nat.zero_mul]; exact wls_nil
  | d :: ds, h => by
    have := wls_cons (h d List.mem_cons_self) (wls_all fun x hx => h x (List.mem_cons_of_mem _ hx))
    refine this.mono (Nat.le_refl _) ?_
    rw [List.length_cons, Nat.succ_mul]
    omega
theorem wl_tup {m n : Nat} {c : Tk} {ds : List D} (h : Wls m n ds) : Wl (m + 1) n (.tuple c ds) := by
  refine ⟨h.nl, h.sh, h.le, ?_, h.bk⟩
  have := h.dp
  show PyData.depth (.tuple (toPys ds)) ≤ m + 1
  simp only [PyData.depth]
  omega
theorem wlk_nil {m : Nat} : Wlk m 0 [] := ⟨rfl, rfl, rfl, Nat.zero_le _, Nat.le_refl _⟩
theorem wlk_cons {m n n' k : Nat} {a b : D} {ps : List (D × D)} (h : Wl m n a) (h' : Wl m n' b) (r : Wlk m k ps) : Wlk m (n + n' + 2 + k) ((a, b) :: ps) := by
  refine ⟨?_, ?_, ?_, ?_, ?_⟩
  · show (noL a && noL b && noLk ps) = true
    rw [h.nl, h'.nl, r.nl]; rfl
  · show (PyData.showable (toPy a) && PyData.showable (toPy b) && PyData.showableKv (toPyKs ps)) = true
    rw [h.sh, h'.sh, r.sh]; rfl
  · show (PyData.leavesShort 13 (toPy a) && PyData.leavesShort 13 (toPy b) && PyData.leavesShortKv 13 (toPyKs ps)) = true
    rw [h.le, h'.le, r.le]; rfl
  · have := h.dp
    have := h'.dp
    have := r.dp
    show PyData.depthKv ((toPy a, toPy b) :: toPyKs ps) ≤ m
    simp only [PyData.depthKv]
    omega
  · show PyData.bulk (toPy a) + PyData.bulk (toPy b) + 2 + PyData.bulkKv (toPyKs ps) ≤ n + n' + 2 + k
    have := h.bk
    have := h'.bk
    have := r.bk
    omega
theorem wlk_all {m n n' : Nat} : ∀ {ps : List (D × D)}, (∀ p ∈ ps, Wl m n p.1 ∧ Wl m n' p.2) → Wlk m (ps.length * (n + n' + 2)) ps
  | [], _ => by rw [List.length_nil, Nat.zero_mul]; exact wlk_nil
  | (a, b) :: ps, h => by
    have h0 := h (a, b) List.mem_cons_self
    have r := wlk_cons h0.1 h0.2 (wlk_all fun x hx => h x (List.mem_cons_of_mem _ hx))
    refine ⟨r.nl, r.sh, r.le, r.dp, Nat.le_trans r.bk ?_⟩
    rw [List.length_cons, Nat.succ_mul]
    omega
theorem wl_dict {m n : Nat} {ps : List (D × D)} (h : Wlk m n ps) : Wl (m + 1) n (.dict ps) := by
  refine ⟨h.nl, h.sh, h.le, ?_, h.bk⟩
  have := h.dp
  show PyData.depth (.dict (toPyKs ps)) ≤ m + 1
  simp only [PyData.depth]
  omega
/-- repr of a new list of such -/
theorem repr_wl {m n : Nat} {ds : List D} {k : D → Prop} (h : Wls m n ds) (hm : m ≤ 58) (hn : n ≤ 1000000) (q : k (.str (toPy (.list ds)).shown)) : oReprL (.list ds) k := by
  refine ⟨h.nl, h.sh, Nat.le_trans h.dp hm, ?_, q⟩
  refine PyData.shown_fits_bulk (B := 13) (by decide) (by decide) h.le (Nat.le_trans (show PyData.bulkAll (toPys ds) ≤ n from h.bk) ?_)
  exact Nat.le_trans hn (by decide)
end Dl

set_option Elab.async false
set_option linter.all false
set_option maxRecDepth 100000
set_option maxHeartbeats 4000000
/-! isinstance(d, dict) of a dict of one's own. -/
namespace Dl
open PySem PySem.Spec PyProof.Rows L2 Br
section
variable {K : PySem.W.Frag} {X : Cx}
def mIsDict (i : Nat) : ME := fun ρ k => match ρ[i]? with
  | some (.own (.dict _)) => k (.bool true) ρ
  | _ => False
theorem mo_isDict {i : Nat} : Mo (mIsDict i) := fun ρ k k' w => by
  unfold mIsDict
  split
  · exact w _ _
  · exact id
theorem se_isdict {i : Nat} {a : Expr} {p p2 pos : Pos} (hK : X.K = K) (hg : Gl X "isinstance") (hm : X.mg "isinstance" = none) (hg2 : Gl X "dict") (hm2 : X.mg "dict" = none) (ha : PE X a (tVar i)) (hs : starEach [a, .Name "dict" p2] X.env = [(false, eval a X.env), (false, eval (.Name "dict" p2) X.env)] := by rfl) (hs2 : starEach [.Name "dict" p2] X.env = [(false, eval (.Name "dict" p2) X.env)] := by rfl) (hpl : (backTo pos (starEach [.Name "dict" p2] X.env)).any (·.1) = false := by rfl) :
    SE K (fE K) X (.Call (.Name "isinstance" p) [a, .Name "dict" p2] [] pos) (mIsDict i) := by
  subst hK
  refine ⟨mo_isDict, pe_weak (pe_callB call_isi hg hm (by decide +kernel) (pa_cons ha (pa_cons (pe_bltn (v := .ty "dict") hg2 hm2 (by decide +kernel) rfl) pa_nil hs2) hs) (by decide) (by decide) hs hpl) fun σ H Q ⟨G, ρ, R, q⟩ => ?_⟩
  unfold mIsDict at q
  split at q
  · rename_i ps e
    obtain ⟨p, o, hv, hp, gp, ob⟩ := R.own i _ e
    have fin : Q (.bl true) H := q _ G H R .refl (.bl true)
    refine ⟨_, hv, ⟨_, .ty "dict", .type "dict", .type "dict", true, rfl, .ty "dict", ?_, rfl, fin⟩⟩
    cases ob with
    | dK l a => exact .base (.dK hp)
    | dT l a => exact .base (.dT hp)
  · exact q.elim
/-- a comparison, the left one a thing of one's own -/
theorem st_cO {op : CmpOp} {o : O2} {i : Nat} {a b : Expr} {mb : ME} {pos : Pos} (h : Cmp K X op o) (ha : PE X a (tVar i)) (hb : SE K (fV K) X b mb) (hm : behindInMarks op b = false) : ST K X (.Compare a [op] [b] pos) (mTest (mOpO o i mb)) := by
  have ho := op2_of (K := K) (π := pE K) h.mo
  refine ⟨mo_test (mo_opO ho.mono hb.mono), pt_weak (pt_cmpR h.opr ha hb.pe hm) fun σ H Q ⟨G, ρ, R, q⟩ => ?_⟩
  refine t_opO (φ := fE K) ho embE hb σ H _ ⟨G, ρ, R, mo_opO ho.mono hb.mono ρ _ _ (fun d ρ1 q v G1 H1 R1 l r => ?_) q⟩
  cases d with
  | bool b =>
    cases r
    exact ⟨b, rfl, q G1 H1 R1 l⟩
  | _ => exact q.elim
end
end Dl

set_option Elab.async false
set_option linter.all false
set_option maxRecDepth 100000
set_option maxHeartbeats 4000000
/-! texts and tuples repeated, sorted(tuple of pairs); a def whose promise is known otherwise. -/
namespace Dl
open PySem PySem.Spec PyProof.Rows L2 Br
def oMulS : O2 := fun a b k => match a, b with
  | .str z, .int n => 0 ≤ n ∧ n ≤ 1000 ∧ z.length ≤ 1000 ∧ (repS z n).length ≤ sizeLine ∧ k (.str (repS z n))
  | _, _ => False
theorem mo_mulS : Mo2 oMulS := fun a b k k' w h => by cases a <;> cases b <;> first | exact h.elim | exact ⟨h.1, h.2.1, h.2.2.1, h.2.2.2.1, w _ h.2.2.2.2⟩
def oMulT : O2 := fun a b k => match a, b with
  | .tuple _ xs, .int n => xs ≠ [] ∧ 2 ≤ n ∧ n ≤ 1000 ∧ xs.length ≤ 1000 ∧ k (.tuple .mad (List.replicate n.toNat xs).flatten)
  | _, _ => False
theorem mo_mulT : Mo2 oMulT := fun a b k k' w h => by cases a <;> cases b <;> first | exact h.elim | exact ⟨h.1, h.2.1, h.2.2.1, h.2.2.2.1, w _ h.2.2.2.2⟩
section
variable {K : PySem.W.Frag} {X : Cx} {a b : Expr} {ma mb : ME} {pos : Pos}
theorem opr_mulS : OpR X (binaryOp .Mult) (rO2 X.K (pE X.K) oMulS) := by
  intro pins s σ H x y v u Q I rx ry h
  obtain ⟨G, a, b, g, hx, hy, q⟩ := h
  cases a <;> cases b <;> first | exact q.elim | skip
  have ex := vw_str hx
  have ey := vw_int hy
  subst ex ey
  exact op_mulS pins s σ H _ _ v u Q I rx ry ⟨_, _, rfl, rfl, q.1, q.2.1, q.2.2.1, q.2.2.2.1, stay g q.2.2.2.2 (.str _)⟩
theorem rps_rep {G : Hp} {vs : List V} {ds : List D} (r : RpAll K G vs ds) : ∀ n : Nat, RpAll K G (List.replicate n vs).flatten (List.replicate n ds).flatten
  | 0 => .nil
  | n + 1 => by
    rw [List.replicate_succ, List.replicate_succ, List.flatten_cons, List.flatten_cons]
    exact rps_app r (rps_rep r n)
theorem opr_mulT : OpR X (binaryOp .Mult) (rO2 X.K (pE X.K) oMulT) := by
  intro pins s σ H x y v u Q I rx ry h
  obtain ⟨G, a, b, g, hx, hy, q⟩ := h
  cases a <;> cases b <;> first | exact q.elim | skip
  have ey := vw_int hy
  subst ey
  obtain ⟨h1, h2, h3, h4, q⟩ := q
  cases hx with
  | fro r =>
    obtain ⟨p, xs, rfl, sq, ra, _⟩ := rp_tup r
    have ln := rps_len ra
    refine op_repT pins s σ H _ _ v u Q I rx ry ⟨p, _, xs, rfl, rfl, sqT_same g sq, fun z => h1 (by rw [z] at ln; exact List.length_eq_zero_iff.mp ln.symm), h2, h3, by omega, fun p' np => ?_⟩
    exact newG g q np (.tup upd_same (rps_same (same_upd (g.free np)) (rps_rep ra _)))
  | own h ob => cases ob
theorem se_mulS (hK : X.K = K) (ha : SE K (fE K) X a ma) (hb : SE K (fV K) X b mb) : SE K (fE K) X (.BinOp a .Mult b pos) (mOp oMulS ma mb) := by subst hK; exact se_op opr_mulS (op2_of mo_mulS) embE ha hb
theorem se_mulT (hK : X.K = K) (ha : SE K (fE K) X a ma) (hb : SE K (fV K) X b mb) : SE K (fE K) X (.BinOp a .Mult b pos) (mOp oMulT ma mb) := by subst hK; exact se_op opr_mulT (op2_of mo_mulT) embE ha hb
/-- t[::-1] of a tuple -/
def mRev (ma : ME) : ME := fun ρ k => ma ρ fun d ρ1 => match d with
  | .tuple _ xs => k (.tuple .mad xs.reverse) ρ1
  | _ => False
theorem rps_rev {G : Hp} : ∀ {vs : List V} {ds : List D}, RpAll K G vs ds → RpAll K G vs.reverse ds.reverse
  | _, _, .nil => .nil
  | _, _, .cons r rs => by
    rw [List.reverse_cons, List.reverse_cons]
    exact rps_app (rps_rev rs) (.cons r .nil)
theorem se_rev {n : Nat} {p1 p2 p3 : Pos} (hK : X.K = K) (ha : SE K (fE K) X a ma) : SE K (fE K) X (.Subscript a (.Slice none none (some (.UnaryOp .USub (.Constant (.int 1) n p1) p2)) p3) pos) (mRev ma) := by
  subst hK
  refine ⟨fun ρ k k' w => ha.mono ρ _ _ fun d ρ1 q => ?_, pe_weak (pe_revT ha.pe) fun σ H Q ⟨G, ρ, R, q⟩ => ⟨G, ρ, R, ha.mono ρ _ _ (fun d ρ1 q x G1 H1 R1 l1 rx => ?_) q⟩⟩
  · cases d <;> first | exact q.elim | exact w _ _ q
  · cases d <;> first | exact q.elim | skip
    obtain ⟨p, xs, rfl, sq, ra, _⟩ := rp_tup rx
    refine ⟨p, xs, rfl, sqT_same R1.gh sq, fun p' np => ?_⟩
    have st := stp_newG (o := .tup xs.reverse) R1.gh np
    exact q _ _ _ (R1.pure st (same_new2 R1.gh np)) (l1.trans (.pure st)) (.tup upd_same (rps_same st.gg (rps_rev ra)))
/-- sorted(t), t a tuple of pairs -/
def oSorted_tups : O1 := fun a k => match a with
  | .tuple _ ds => ds.all isPr = true ∧ ∀ ds' : List D, ds'.Perm ds → k (.list ds')
  | _ => False
theorem mo_sortedT : Mo1 oSorted_tups := fun a k k' w h => by cases a <;> first | exact h.elim | exact ⟨h.1, fun ds' p => w _ (h.2 ds' p)⟩
theorem callr_sortedT : CallR X (.builtin "sorted") (fun xs H Q => ∃ x, xs = [x] ∧ rO1 X.K (pF X.K) oSorted_tups x H Q) := by
  intro pins s σ H xs us Q I r h
  obtain ⟨x, rfl, G, d, g, hx, q⟩ := h
  cases d <;> first | exact q.elim | skip
  rename_i c ds
  have rx := vw_rp g hx
  cases hx with
  | own h ob => cases ob
  | fro rr =>
  obtain ⟨p, vs, rfl, sq, ra, _⟩ := rp_tup rr
  obtain ⟨hall, q⟩ := q
  have nm : ∀ {vs : List V} {ds : List D}, RpAll X.K G vs ds → ds.all isPr = true → ∀ u ∈ vs, ∃ n, NameAt X.K H u n := by
    intro vs
    induction vs with
    | nil => intro ds _ _ u hu; cases hu
    | cons v vs ih =>
      intro ds r h u hu
      cases r with
      | cons r1 r2 =>
        rw [List.all_cons, Bool.and_eq_true] at h
        rcases List.mem_cons.mp hu with z | z
        · subst z; exact ⟨_, pr_name g r1 h.1⟩
        · exact ih r2 h.2 u z
  refine cr_sortedTN pins s σ H _ us Q I r ⟨p, vs, nameOf X.K H, rfl, sqT_same g sq, fun u hu => ?_, fun us' n pm pw nn => ?_⟩
  · obtain ⟨m, hm⟩ := nm ra hall u hu
    exact nameOf_at hm
  · obtain ⟨ds', pd, rs'⟩ := perm_rps pm ra
    exact newF g (q ds' pd) nn (.lst rs')
theorem se_sorted_tups {k : Nat} {p : Pos} (hK : X.K = K) (hr : Room k X.A) (hg : Gl X "sorted") (hm : X.mg "sorted" = none) (ha : SE K (fV K) X a ma) (hs : starEach [a] X.env = [(false, eval a X.env)] := by rfl) (hpl : (backTo pos (starEach [] X.env)).any (·.1) = false := by rfl) :
    SE K (fF K) X (.Call (.Name "sorted" p) [a] [] pos) (mUn oSorted_tups ma) := by
  subst hK
  exact se_b1 (id := "sorted") callr_sortedT (fun y H Q h => ⟨y, rfl, h⟩) mo_sortedT embF hg hm (by decide +kernel) ha hs (by decide) (by decide) hpl
end
/-! ### a def of one argument that gives a plain thing, whatever its promise's form -/
section
variable {P : Program} {w : World} {K : PySem.W.Frag} {mg : Str → Option Value} {base : Heap} {k : Nat} {f : Addr} {fd : FuncData}
theorem fnG_weak {CX : CXT} {ps : List Str} {sp sp' : Sp} (F : FnG P w K mg base CX k f fd ps sp) (wk : ∀ vs H Q E, sp' vs H Q E → sp vs H Q E) : FnG P w K mg base CX k f fd ps sp' :=
  ⟨fun vs H Q E h => F.many vs H Q E (wk _ _ _ _ h), fun Ar out st H as us vs Q E g hr e0 hb r h => F.runs Ar out st H as us vs Q E g hr e0 hb r (wk _ _ _ _ h)⟩
def F_look (ok : D → Prop) (g : D → Str) : Fs := fun cs k => ∃ d, cs = [.fro d] ∧ ok d ∧ k (.str (g d)) []
theorem fnD_look {ok : D → Prop} {g : D → Str} {x : Str} {sp : Sp} (F : FnG P w K mg base CX0 k f fd [x] sp)
    (wk : ∀ (v : V) (d : D) (H : Hp) (Q : VK) (E : XK), Rp K H v d → ok d → (∀ H', Same H H' → Q (.str (g d)) H') → sp [v] H Q E) : FnD P w K mg base k f fd [x] 0 (F_look ok g) := by
  refine ⟨fnG_weak F fun vs H Q E ⟨hl, G, cs, R, d, hcs, od, q⟩ => ?_, fun cs k k' w ⟨d, h1, h2, h3⟩ => ⟨d, h1, h2, w _ _ h3⟩, fun cs k ⟨d, h1, _⟩ => by rw [h1]; rfl, Nat.zero_le _⟩
  subst hcs
  match vs, hl with
  | [v], _ =>
    obtain ⟨v', e, r⟩ := R.fro 0 d rfl
    cases e
    refine wk v d H Q E (rp_same R.gh r) od fun H' s => q _ G H' (R.gh.trans s) ⟨R.gh.trans s, rfl, fun i d e => ?_, fun i d e => ?_, fun i j p d c e => ?_⟩ ⟨Same.refl _, fun a o _ e => s a o e, fun _ _ _ _ g _ => g, fun a e => ?_⟩ (.str _)
    · cases e
    · cases e
    · cases e
    · cases z : H a with
      | none => rfl
      | some o => rw [s a o z] at e; cases e
end
end Dl

set_option Elab.async false
set_option linter.all false
set_option maxRecDepth 100000
set_option maxHeartbeats 4000000
/-! A def that hands back a tuple of two things of its caller's own: x, y = f(..). -/
namespace Dl
open PySem PySem.Spec PyProof.Rows L2 Br
/-- a tuple of two new things that nobody else has -/
structure Two (K : PySem.W.Frag) (H0 G H : Hp) (t p q : Addr) (d e : D) : Prop where
  tup : H t = some (.tup [.ref p, .ref q])
  ne : p ≠ q
  p0 : H0 p = none
  q0 : H0 q = none
  pg : G p = none
  qg : G q = none
  pd : ∃ o, H p = some o ∧ ObR K G o d
  qd : ∃ o, H q = some o ∧ ObR K G o e
abbrev F2 := List Cell → (D → D → List Cell → Prop) → Prop
def sp2 (K : PySem.W.Frag) (np n : Nat) (F : F2) : Sp := fun vs H Q _ => vs.length = np ∧ ∃ G cs, Rel K (vs.map some) G H cs ∧
  F cs fun d e cs' => ∀ t p q G' H', Same G' H' → Rel K ((vs.take n).map some) G' H' cs' → Stp (Ow (vs.map some) cs) G H G' H' → Two K H G' H' t p q d e → Q (.ref t) H'
structure Fn2 (P : Program) (w : World) (K : PySem.W.Frag) (mg : Str → Option Value) (base : Heap) (k : Nat) (f : Addr) (fd : FuncData) (ps : List Str) (n : Nat) (F : F2) : Prop where
  ok : FnG P w K mg base CX0 k f fd ps (sp2 K ps.length n F)
  mo : ∀ cs (k k' : D → D → List Cell → Prop), (∀ d e cs', k d e cs' → k' d e cs') → F cs k → F cs k'
  ln : ∀ cs k, F cs k → cs.length = ps.length
  le : n ≤ ps.length
/-! ### the body -/
abbrev M2 := (D → D → Cs → Prop) → Cs → Prop
/-- what lies in the slots at the end -/
structure End2 (n : Nat) (σ : L2.St) (H : Hp) (ρ : Cs) (t p q : Addr) (i j : Nat) (d e : D) : Prop where
  tup : H t = some (.tup [.ref p, .ref q])
  ij : i ≠ j
  ni : n ≤ i
  nj : n ≤ j
  si : σ[i]? = some (some (V.ref p))
  sj : σ[j]? = some (some (V.ref q))
  ri : ρ[i]? = some (.own d)
  rj : ρ[j]? = some (.own e)
  own : ∀ l, l < n → ∃ c, ρ[l]? = some (.own c)
def tS2 (K : PySem.W.Frag) (n : Nat) (m : M2) : TS := fun T σ H => ∃ G ρ E, Rel K σ G H ρ ∧ m E ρ ∧ ∀ t p q i j d e σ' G' H' ρ', Rel K σ' G' H' ρ' → Lk n σ G H ρ σ' G' H' ρ' → End2 n σ' H' ρ' t p q i j d e → E d e ρ' → T.rt (.ref t) H'
structure SB2 (K : PySem.W.Frag) (n : Nat) (X : Cx) (sts : List Stmt) (m : M2) : Prop where
  mono : ∀ (ρ : Cs) (E E' : D → D → Cs → Prop), (∀ d e ρ', E d e ρ' → E' d e ρ') → m E ρ → m E' ρ
  ps : PSs X sts (tS2 K n m)
def sRet2 (n i j : Nat) : M2 := fun E ρ => i ≠ j ∧ n ≤ i ∧ n ≤ j ∧ (∀ l, l < n → ∃ c, ρ[l]? = some (Cell.own c)) ∧ ∃ d e, ρ[i]? = some (.own d) ∧ ρ[j]? = some (.own e) ∧ E d e ρ
def sSeq2 (a : MS) (b : M2) : M2 := fun E ρ => a { nx := b E, rt := fun _ _ => False } ρ
section
variable {K : PySem.W.Frag} {X : Cx} {n : Nat} {st : Stmt} {sts : List Stmt} {ms : MS} {mu : M2} {a b : Expr} {pos : Pos}
theorem sb2_ret {i j : Nat} {x1 : Nat} {p1 : Pos} (ha : PE X a (tVar i)) (hb : PE X b (tVar j)) (hs : starEach [a, b] X.env = (false, eval a X.env) :: starEach [b] X.env := by rfl) (hs2 : starEach [b] X.env = (false, eval b X.env) :: starEach [] X.env := by rfl) :
    SB2 K n X [.Return (some (.Tuple [a, b] x1 p1)) pos] (sRet2 n i j) := by
  refine ⟨fun ρ E E' w h => ?_, pss_weak (pss_one (ps_ret (pe_tup (pa_cons ha (pa_cons hb pa_nil hs2) hs)))) fun T σ H ⟨G, ρ, E, R, q, fin⟩ => ?_⟩
  · obtain ⟨h1, h2, h3, h4, d, e, h5, h6, h7⟩ := h
    exact ⟨h1, h2, h3, h4, d, e, h5, h6, w _ _ _ h7⟩
  · obtain ⟨h1, h2, h3, h4, d, e, h5, h6, h7⟩ := q
    obtain ⟨p, o, vp, hp, gp, op⟩ := R.own i d h5
    obtain ⟨q, o', vq, hq, gq, oq⟩ := R.own j e h6
    refine ⟨_, vp, _, vq, Nat.le_of_ble_eq_true rfl, fun t ft => ?_⟩
    have st := stp_newG (G := G) (o := .tup [V.ref p, V.ref q]) R.gh ft
    exact fin t p q i j d e σ _ _ ρ (R.pure st (same_new2 R.gh ft)) (.pure st) ⟨upd_same, h1, h2, h3, vp, vq, h5, h6, h4⟩ h7
theorem sb2_cons (h : SS K n X st ms) (g : SB2 K n X sts mu) : SB2 K n X (st :: sts) (sSeq2 ms mu) := by
  refine ⟨fun ρ E E' w => h.mono ρ _ _ (fun ρ1 => g.mono ρ1 _ _ w) (fun _ _ z => z) (fun _ z => z) (fun _ z => z), pss_weak (pss_cons h.ps g.ps) fun T σ H ⟨G, ρ, E, R, q, fin⟩ => ?_⟩
  exact ⟨G, ρ, _, R, q, fun σ1 G1 H1 ρ1 R1 l1 q1 => ⟨G1, ρ1, E, R1, q1, fun t p q i j d e σ2 G2 H2 ρ2 R2 l2 => fin t p q i j d e σ2 G2 H2 ρ2 R2 (l1.trans l2)⟩, fun _ _ _ _ _ _ _ _ _ z => z.elim, fun _ _ _ _ _ _ z => z.elim, fun _ _ _ _ _ _ z => z.elim⟩
end
/-- the def -/
def F2of (np m n : Nat) (b : M2) : F2 := fun cs k => cs.length = np ∧ (∀ (l : Nat) (d : D), cs[l]? = some (.own d) → l < n) ∧ ∃ k0 : D → D → List Cell → Prop, (∀ d e cs', k0 d e cs' → k d e cs') ∧ b (fun d e ρ' => k0 d e (ρ'.take n)) (cs ++ List.replicate m .un)
section
variable {P : Program} {w : World} {K : PySem.W.Frag} {mg : Str → Option Value} {base : Heap} {k : Nat} {f : Addr} {fd : FuncData} {ps : List Str}
theorem fn_of2 {x qual : Str} {st : Stmt} {N : List Str} {n np m : Nat} {b : M2} (Fu : Fun K x qual st f fd) (S : FnScope N ps (defScope st)) (hn : n ≤ ps.length) (hp : ps.length = np) (hm : N.length - ps.length = m)
    (body : ∀ (cdv : Value) (Ar : Around) (out : List PySem.Env) (s0 : Shared) (H : Hp) (E : XK), Bare Ar → Room k (Ar.deeper (envOfC qual (defScope st) s0.heap.objs.size f cdv)) →
      SB2 K n (cxOf CX0 P w K mg base N qual (defScope st) f cdv Ar out s0 H E).nox (defBody st) b) : Fn2 P w K mg base (k + 1) f fd ps n (F2of np m n b) := by
  subst hp hm
  refine ⟨okG Fu S (fun vs H Q E h => h.1) fun cdv Ar out s0 H vs Q E hG hr hsp => ?_, fun cs k k' w ⟨h1, h2, k0, h3, h4⟩ => ⟨h1, h2, k0, fun d e cs' z => w _ _ _ (h3 _ _ _ z), h4⟩, fun cs k h => h.1, hn⟩
  obtain ⟨hl, G, cs, R, hcl, hown, k0, wk, h⟩ := hsp
  have sb := body cdv Ar out s0 H E hG hr
  have R0 := R.more (N.length - ps.length)
  have e0 : vs.map some ++ List.replicate (N.length - ps.length) none = L2.start N vs := by unfold L2.start; rw [hl]
  rw [e0] at R0
  have st0 : ∀ i, i < n → (L2.start N vs)[i]? = (vs.map some)[i]? := fun i hi => by
    unfold L2.start
    rw [List.getElem?_append_left (by rw [List.length_map]; omega)]
  have ow1 : ∀ p, Ow (L2.start N vs) (cs ++ List.replicate (N.length - ps.length) .un) p → ∃ (i : Nat) (d : D), cs[i]? = some (Cell.own d) ∧ (vs.map some)[i]? = some (some (V.ref p)) ∧ (L2.start N vs)[i]? = some (some (V.ref p)) := by
    rintro p ⟨i, d, h1, h2⟩
    by_cases hi : i < cs.length
    · rw [List.getElem?_append_left hi] at h1
      have h3 := h2
      unfold L2.start at h2
      rw [List.getElem?_append_left (by rw [List.length_map]; omega)] at h2
      exact ⟨i, d, h1, h2, h3⟩
    · rw [List.getElem?_append_right (by omega), List.getElem?_replicate] at h1
      split at h1 <;> cases h1
  refine ⟨_, sb.ps, G, _, _, R0, h, fun t p q i j d e σ' G' H' ρ' R' l en hk => ?_⟩
  have hs : n ≤ σ'.length := by
    by_cases z : n = 0
    · omega
    · have e := (l.pn (n - 1) (by omega)).trans (st0 (n - 1) (by omega))
      have hv : n - 1 < vs.length := by omega
      rw [List.getElem?_map, List.getElem?_eq_getElem hv] at e
      have := (List.getElem?_eq_some_iff.mp e).1
      omega
  -- what is owned at the end is new, but for what was handed in
  have new : ∀ (p : Addr) (i : Nat) (d : D), n ≤ i → σ'[i]? = some (some (V.ref p)) → ρ'[i]? = some (.own d) → H p = none := fun p i d hi hs hr => by
    rcases l.sb p ⟨i, d, hr, hs⟩ with z | z
    · obtain ⟨m, c, h1, _, h3⟩ := ow1 p z
      have hm := hown m c h1
      obtain ⟨c', h4⟩ := en.own m hm
      have h5 : σ'[m]? = some (some (V.ref p)) := (l.pn m hm).trans h3
      have := R'.apart m i p c' d h4 hr h5 hs
      omega
    · exact z
  obtain ⟨p', o1, vp, hp, gp, op⟩ := R'.own i d en.ri
  obtain ⟨q', o2, vq, hq, gq, oq⟩ := R'.own j e en.rj
  rw [en.si] at vp
  cases vp
  rw [en.sj] at vq
  cases vq
  refine wk _ _ _ hk t p q G' H' R'.gh (R'.cut (by omega) hs fun i hi => (l.pn i hi).trans (st0 i hi)) (l.st.weak fun p z => ?_) ⟨en.tup, fun z => ?_, new p i d en.ni en.si en.ri, new q j e en.nj en.sj en.rj, gp, gq, ⟨o1, hp, op⟩, ⟨o2, hq, oq⟩⟩
  · obtain ⟨m, c, h1, h2, _⟩ := ow1 p z
    exact ⟨m, c, h1, h2⟩
  · subst z
    exact en.ij (R'.apart i j p d e en.ri en.rj en.si en.sj)
end
/-! ### x, y = f(..) -/
def sTwo (F : F2) (n : Nat) (mr : MR) (x y : Nat) : MS := fun E ρ => mr ρ fun as ρ1 => (slotsOf as).Nodup ∧ slotsOf (as.drop n) = [] ∧ match cellsOf ρ1 as with
  | some cs => F cs fun d e cs' => E.nx (((putBack ρ1 as cs').set x (.own d)).set y (.own e))
  | none => False
section
variable {K : PySem.W.Frag} {X : Cx} {a : Expr} {es : List Expr} {mr : MR}
/-- the cells behind a call -/
theorem rel_back {σ : L2.St} {G H G' H' : Hp} {ρ : Cs} {vs : List V} {as : List Ar} {cs cs' : List Cell} {n : Nat} (R1 : Rel K σ G H ρ) (ar : ArR K σ G vs as) (hcs : cellsOf ρ as = some cs) (nd : (slotsOf as).Nodup) (ds : slotsOf (as.drop n) = []) (hn : n ≤ vs.length) :
    Rel K (vs.map some) G H cs ∧ (∀ p, Ow (vs.map some) cs p → Ow σ ρ p) ∧ (Same G' H' → Rel K ((vs.take n).map some) G' H' cs' → Stp (Ow (vs.map some) cs) G H G' H' → Rel K σ G' H' (putBack ρ as cs') ∧ ∀ p, Ow σ (putBack ρ as cs') p → Ow σ ρ p) := by
  obtain ⟨hl, get⟩ := cells_get R1 ar hcs
  have RR : Rel K (vs.map some) G H cs := by
    refine ⟨R1.gh, by rw [List.length_map, hl], fun i d e => ?_, fun i d e => ?_, fun i k p d e h h' g g' => ?_⟩
    · rcases get i _ e with ⟨d', v, z, _, hv, r⟩ | ⟨d', j, v, z, _⟩
      · cases z
        exact ⟨v, by rw [List.getElem?_map, hv]; rfl, r⟩
      · cases z
    · rcases get i _ e with ⟨d', v, z, _⟩ | ⟨d', j, v, z, _, hj, hv, hs⟩
      · cases z
      · cases z
        obtain ⟨p, o, h1, h2⟩ := R1.own j d hj
        rw [hs] at h1
        cases h1
        exact ⟨p, o, by rw [List.getElem?_map, hv]; rfl, h2⟩
    · rcases get i _ h with ⟨d', v, z, _⟩ | ⟨d', j, v, z, ha, hj, hv, hs⟩
      · cases z
      · rcases get k _ h' with ⟨d'', v', z', _⟩ | ⟨d'', j', v', z', ha', hj', hv', hs'⟩
        · cases z'
        · cases z
          cases z'
          rw [List.getElem?_map, hv] at g
          rw [List.getElem?_map, hv'] at g'
          cases g
          cases g'
          have := R1.apart j j' p d e hj hj' hs hs'
          subst this
          exact slots_inj nd ha ha'
  refine ⟨RR, ?_, fun gh R' st => ?_⟩
  · rintro p ⟨i, d, h1, h2⟩
    rcases get i _ h1 with ⟨d', v, z, _⟩ | ⟨d', j, v, z, ha, hj, hv, hs⟩
    · cases z
    · cases z
      rw [List.getElem?_map, hv] at h2
      cases h2
      exact ⟨j, d, hj, hs⟩
  have hcl : cs'.length = n := by
    rw [← R'.len, List.length_map, List.length_take]; omega
  have arg : ∀ (i j : Nat), as[i]? = some (Sum.inl j) → ∃ v d, vs[i]? = some v ∧ σ[j]? = some (some v) ∧ ρ[j]? = some (.own d) ∧ i < n ∧ cs[i]? = some (.own d) := fun i j e => by
    have hi := drop_slots ds e
    obtain ⟨c, hc⟩ : ∃ c, cs[i]? = some c := ⟨_, List.getElem?_eq_getElem (by omega)⟩
    rcases get i c hc with ⟨d', v, z, ha, _⟩ | ⟨d', j', v, z, ha, hj, hv, hs⟩
    · rw [e] at ha; cases ha
    · rw [e] at ha
      cases ha
      subst z
      exact ⟨v, d', hv, hs, hj, hi, hc⟩
  have tk : ∀ (i : Nat) (v : V), i < n → vs[i]? = some v → ((vs.take n).map some)[i]? = some (some v) := fun i v hi e => by
    rw [List.map_take, List.getElem?_take_of_lt hi, List.getElem?_map, e]; rfl
  have cases_ : ∀ (j : Nat) (c : Cell), (putBack ρ as cs')[j]? = some c → (∃ (i : Nat) (v : V) (d : D), as[i]? = some (Sum.inl j) ∧ cs'[i]? = some c ∧ i < n ∧ vs[i]? = some v ∧ σ[j]? = some (some v) ∧ ρ[j]? = some (.own d)) ∨ (ρ[j]? = some c ∧ ∀ i : Nat, as[i]? ≠ some (Sum.inl j)) := fun j c e => by
    rcases pb_get nd e with ⟨i, h1, h2⟩ | ⟨h1, h2⟩
    · obtain ⟨v, d, z1, z2, z3, z4, _⟩ := arg i j h1
      exact .inl ⟨i, v, d, h1, h2, z4, z1, z2, z3⟩
    · refine .inr ⟨h1, fun i z => ?_⟩
      have := h2 i z
      have := drop_slots ds z
      omega
  have apart1 : ∀ (j : Nat) (d : D) (p : Addr), ρ[j]? = some (Cell.own d) → σ[j]? = some (some (V.ref p)) → (∀ i : Nat, as[i]? ≠ some (Sum.inl j)) → ¬ Ow (vs.map some) cs p := fun j d p h1 h2 no ⟨i, d', h3, h4⟩ => by
    rcases get i _ h3 with ⟨_, _, z, _⟩ | ⟨d'', j', v, z, ha, hj, hv, hs⟩
    · cases z
    · rw [List.getElem?_map, hv] at h4
      cases h4
      have := R1.apart j j' p d d'' h1 hj h2 hs
      subst this
      exact no i ha
  refine ⟨⟨gh, by rw [pb_len]; exact R1.len, fun j d e => ?_, fun j d e => ?_, fun j j' p d e h h' g g' => ?_⟩, ?_⟩
  · rcases cases_ j _ e with ⟨i, v, d', h1, h2, h3, h4, h5, h6⟩ | ⟨h1, h2⟩
    · obtain ⟨v', g1, g2⟩ := R'.fro i d h2
      rw [tk i v h3 h4] at g1
      cases g1
      exact ⟨v, h5, g2⟩
    · obtain ⟨v, g1, g2⟩ := R1.fro j d h1
      exact ⟨v, g1, rp_same st.gg g2⟩
  · rcases cases_ j _ e with ⟨i, v, d', h1, h2, h3, h4, h5, h6⟩ | ⟨h1, h2⟩
    · obtain ⟨p, o, g1, g2⟩ := R'.own i d h2
      rw [tk i v h3 h4] at g1
      cases g1
      exact ⟨p, o, h5, g2⟩
    · obtain ⟨p, o, g1, g2, g3, g4⟩ := R1.own j d h1
      have na := apart1 j d p h1 g1 h2
      exact ⟨p, o, g1, st.hh p o na g2, st.fr p o na g2 g3 (ob_tup g4), ob_same st.gg g4⟩
  · have oj : ∀ (j : Nat) (d : D), (putBack ρ as cs')[j]? = some (.own d) → ∃ d, ρ[j]? = some (.own d) := fun j d e => by
      rcases cases_ j _ e with ⟨i, v, d', h1, h2, h3, h4, h5, h6⟩ | ⟨h1, h2⟩
      · exact ⟨d', h6⟩
      · exact ⟨d, h1⟩
    obtain ⟨d1, e1⟩ := oj j d h
    obtain ⟨d2, e2⟩ := oj j' e h'
    exact R1.apart j j' p d1 d2 e1 e2 g g'
  · rintro p ⟨j, d, h1, h2⟩
    rcases cases_ j _ h1 with ⟨i, v, d', _, _, _, _, _, h6⟩ | ⟨h3, _⟩
    · exact ⟨j, d', h6, h2⟩
    · exact ⟨j, d, h3, h2⟩
theorem ss_two {F : F2} {m n k j x y : Nat} {f : Addr} {fd : FuncData} {ps : List Str} {fx : Str} {p pos p1 p2 : Pos} {tx ty : Expr} {kt : Nat} (Fn : Fn2 X.prog X.w K X.mg X.base j f fd ps n F) (hK : X.K = K) (hG : Bare X.A) (hr : Room k X.A) (hj : j ≤ k) (hg : Gl X fx) (hm : X.mg fx = some (.ref f)) (hk : PySem.W.keepIn K (.ref f) = true) (hb : Binds K fd ps []) (ha : SR K X (a :: es) mr)
    (hx : m ≤ x) (hy : m ≤ y) (gx : PG X (.Tuple [tx, ty] kt p1) (gTup K 2 (gCons (gName x) (gCons (gName y) gNil)))) (hxy : x ≠ y)
    (hdb : (fx == ("__debug__" : Str)) = false := by decide) (he : starEach (a :: es) X.env = (false, eval a X.env) :: starEach es X.env := by rfl) (hpl : (backTo pos (starEach es X.env)).any (·.1) = false := by rfl)
    (hs : swapsWithSole [.Tuple [tx, ty] kt p1] (.Call (.Name fx p) (a :: es) [] pos) p2.line X.env = pure false := by rfl) (hw : swappedStores [.Tuple [tx, ty] kt p1] (.Call (.Name fx p) (a :: es) [] pos) X.env = pure none := by rfl)
    (h1 : (assignEach [.Tuple [tx, ty] kt p1] X.env).map (·.2) = [assign (.Tuple [tx, ty] kt p1) X.env] := by rfl) :
    SS K m X (.Assign [.Tuple [tx, ty] kt p1] (.Call (.Name fx p) (a :: es) [] pos) p2) (sTwo F n mr x y) := by
  subst hK
  refine ⟨fun ρ E E' w _ _ _ => ha.mono ρ _ _ fun as ρ1 q => ⟨q.1, q.2.1, ?_⟩, ps_weak (ps_asg (pe_callG (E := fun _ _ _ => False) Fn.ok hG (hr.mono hj) hg hm hk hb pass0 ha.pa hdb he hpl) gx hs hw h1) fun T σ H ⟨G, ρ, E, R, q, fin, _⟩ => ?_⟩
  · have q := q.2.2
    revert q
    cases cellsOf ρ1 as with
    | none => exact id
    | some cs => exact Fn.mo _ _ _ fun d e cs' => w _
  refine ⟨G, ρ, R, ha.mono ρ _ _ (fun as ρ1 q vs G1 H1 R1 l1 ar => ?_) q⟩
  obtain ⟨nd, ds, q⟩ := q
  rw [List.append_nil]
  split at q
  · rename_i cs hcs
    obtain ⟨hl, _⟩ := cells_get R1 ar hcs
    have hv : vs.length = ps.length := by rw [← hl]; exact Fn.ln _ _ q
    have hn : n ≤ vs.length := by rw [hv]; exact Fn.le
    have RR := (rel_back (cs' := []) (G' := G1) (H' := H1) R1 ar hcs nd ds hn).1
    refine ⟨hv, G1, cs, RR, Fn.mo _ _ _ (fun d e cs' q t p q' G' H' gh R' st two => ?_) q⟩
    obtain ⟨_, own1, back⟩ := rel_back (cs' := cs') (G' := G') (H' := H') R1 ar hcs nd ds hn
    obtain ⟨R2, own2⟩ := back gh R' st
    obtain ⟨o1, hp, op⟩ := two.pd
    obtain ⟨o2, hq, oq⟩ := two.qd
    have np : ¬ Ow σ (putBack ρ1 as cs') p := fun z => R1.old (own2 p z) two.p0
    have R3 := R2.setO (i := x) hp two.pg np op
    have nq : ¬ Ow (σ.set x (some (.ref p))) ((putBack ρ1 as cs').set x (.own d)) q' := fun z => by
      rcases ow_set R2.len z with z | ⟨z, _, _⟩
      · exact R1.old (own2 q' z) two.q0
      · cases z
        exact two.ne rfl
    have R4 := R3.setO (i := y) hq two.qg nq oq
    refine ⟨t, _, rfl, SqT.of two.tup, rfl, _, _, rfl, _, _, rfl, rfl, ?_⟩
    have l2 : Lk m σ G H ρ σ G' H' (putBack ρ1 as cs') := l1.up.trans ⟨st.weak own1, fun p z => .inl (own2 p z), fun _ _ => rfl⟩
    have l3 := l2.setO (i := x) (p := p) (d := d) R2.len hx (l1.st.dom p two.p0)
    have l4 : Lk m σ G H ρ ((σ.set x (some (.ref p))).set y (some (.ref q'))) G' H' (((putBack ρ1 as cs').set x (.own d)).set y (.own e)) := ⟨l3.st, fun z zz => by
      rcases ow_set R3.len zz with u | ⟨u, _, _⟩
      · exact l3.sb z u
      · cases u
        exact .inr (l1.st.dom q' two.q0), fun i hi => (set_ne (by omega)).trans (l3.pn i hi)⟩
    exact fin _ G' H' _ R4 l4 q
  · exact q.elim
end
end Dl

set_option Elab.async false
set_option linter.all false
set_option maxRecDepth 100000
set_option maxHeartbeats 4000000
/-! Dicts of one's own, lent to a call that hands nothing of them back. -/
namespace Dl
open PySem PySem.Spec PyProof.Rows L2 Br
mutual
/-- without a dict within -/
def noD : D → Bool
  | .list ds => noDs ds
  | .tuple _ ds => noDs ds
  | .dict _ => false
  | _ => true
def noDs : List D → Bool
  | [] => true
  | d :: ds => noD d && noDs ds
end
/-- what it holds is without a dict within -/
def heldNo : D → Bool
  | .list ds => noDs ds
  | .dict ps => noDs (ps.map (·.2))
  | _ => true
def isDictO : HO → Bool
  | .dK _ => true
  | .dT _ => true
  | _ => false
section
variable {K : PySem.W.Frag} {G G' : Hp}
/-- G' is G without some dicts -/
structure Less (G G' : Hp) : Prop where
  keep : ∀ a o, G a = some o → isDictO o = false → G' a = some o
theorem rd_less (h : Less G G') {a : Addr} {u : HO} (hu : isDictO u = false) (r : Rd G a u) : Rd G' a u := by
  rcases r with r | ⟨o, r⟩
  · exact .inl (h.keep a u r hu)
  · exact .inr ⟨o, h.keep a _ r rfl⟩
theorem sqT_less (h : Less G G') {a : Addr} {xs : List V} (r : SqT K G a xs) : SqT K G' a xs := r.imp (rd_less h rfl) id
theorem sqL_less (h : Less G G') {a : Addr} {xs : List V} (r : SqL K G a xs) : SqL K G' a xs := r.imp (rd_less h rfl) id
mutual
theorem rp_less (h : Less G G') : ∀ {v : V} {d : D}, noD d = true → Rp K G v d → Rp K G' v d
  | _, _, _, .non => .non
  | _, _, _, .bl b => .bl b
  | _, _, _, .int i => .int i
  | _, _, _, .str x => .str x
  | _, _, n, .lst s a => .lst (rd_less h rfl s) (rps_less h n a)
  | _, _, n, .tup s a => .tup (h.keep _ _ s rfl) (rps_less h n a)
  | _, _, n, .tupC s a => .tupC (sqT_less h s) (rps_less h n a)
  | _, _, n, .tupZ s o a => .tupZ (h.keep _ _ s rfl) o (rps_less h n a)
  | _, _, _, .scr s => .scr (sqL_less h s)
  | _, _, n, .dK s l a => nomatch n
  | _, _, n, .dT s l a => nomatch n
theorem rps_less (h : Less G G') : ∀ {vs : List V} {ds : List D}, noDs ds = true → RpAll K G vs ds → RpAll K G' vs ds
  | _, _, _, .nil => .nil
  | _, _, n, .cons x r => .cons (rp_less h (Bool.and_eq_true_iff.mp n).1 x) (rps_less h (Bool.and_eq_true_iff.mp n).2 r)
end
theorem snd_zip {α : Type} : ∀ {ks : List D} {ds : List D}, ks.length = ds.length → (ks.zip ds).map (·.2) = ds
  | [], [], _ => rfl
  | [], _ :: _, h => nomatch h
  | _ :: _, [], h => nomatch h
  | k :: ks, d :: ds, h => by
    show d :: (ks.zip ds).map (·.2) = d :: ds
    rw [snd_zip (α := α) (Nat.succ.inj h)]
theorem ob_less (h : Less G G') {o : HO} {d : D} (n : heldNo d = true) (r : ObR K G o d) : ObR K G' o d := by
  cases r with
  | lst a => exact .lst (rps_less h n a)
  | dK l a =>
    refine .dK l (rps_less h ?_ a)
    have : noDs (List.map (fun x => x.2) (List.zip _ _)) = true := n
    rwa [snd_zip (α := Unit) (by rw [List.length_map, l, rps_len a])] at this
  | dT l a =>
    refine .dT l (rps_less h ?_ a)
    have : noDs (List.map (fun x => x.2) (List.zip _ _)) = true := n
    rwa [snd_zip (α := Unit) (by rw [List.length_map, l, rps_len a])] at this
end
/-! ### lending -/
/-- slots of dicts of one's own, frozen for a while -/
def lendC (is : List Nat) (ρ : Cs) : Cs := ρ.mapIdx fun i c => match c with
  | .own d => if i ∈ is then .fro d else .own d
  | c => c
def backC (is : List Nat) (ρ0 ρ : Cs) : Cs := ρ.mapIdx fun i c => if i ∈ is then (match ρ0[i]? with | some (.own d) => .own d | _ => c) else c
def isDict : D → Bool
  | .dict _ => true
  | _ => false
/-- all of the slots that are owned are dicts -/
def lendOk (is : List Nat) (ρ : Cs) : Prop := ∀ i ∈ is, ∀ d, ρ[i]? = some (Cell.own d) → isDict d = true
/-- what is given is as it was, what is owned has no dict within -/
def lentOk (ρ1 ρ2 : Cs) : Prop := (∀ (j : Nat) (d : D), ρ2[j]? = some (Cell.fro d) → ρ1[j]? = some (Cell.fro d)) ∧ ∀ (j : Nat) (d : D), ρ2[j]? = some (Cell.own d) → heldNo d = true
def mLend (is : List Nat) (m : ME) : ME := fun ρ k => lendOk is ρ ∧ m (lendC is ρ) fun d ρ2 => noD d = true ∧ lentOk (lendC is ρ) ρ2 ∧ k d (backC is ρ ρ2)
def mLendF (is : List Nat) (m : ME) : ME := fun ρ k => lendOk is ρ ∧ m (lendC is ρ) fun d ρ2 => heldNo d = true ∧ lentOk (lendC is ρ) ρ2 ∧ k d (backC is ρ ρ2)
section
variable {K : PySem.W.Frag} {X : Cx} {e : Expr} {m : ME}
theorem lend_get {is : List Nat} {ρ : Cs} {j : Nat} {c : Cell} (h : (lendC is ρ)[j]? = some c) : (∃ d, ρ[j]? = some (.own d) ∧ j ∈ is ∧ c = .fro d) ∨ (ρ[j]? = some c ∧ ∀ d, c = .own d → j ∉ is) := by
  unfold lendC at h
  rw [List.getElem?_mapIdx] at h
  cases q : ρ[j]? with
  | none => rw [q] at h; cases h
  | some c0 =>
    rw [q] at h
    have h := Option.some.inj h
    cases c0 with
    | un => exact .inr ⟨by rw [← h], fun d z => by rw [← h] at z; cases z⟩
    | fro d => exact .inr ⟨by rw [← h], fun d z => by rw [← h] at z; cases z⟩
    | own d =>
      by_cases z : j ∈ is
      · exact .inl ⟨d, rfl, z, by rw [← h]; simp [z]⟩
      · refine .inr ⟨by rw [← h]; simp [z], fun _ _ => z⟩
theorem back_get {is : List Nat} {ρ0 ρ : Cs} {j : Nat} {c : Cell} (h : (backC is ρ0 ρ)[j]? = some c) : (∃ d c', ρ0[j]? = some (.own d) ∧ j ∈ is ∧ c = .own d ∧ ρ[j]? = some c') ∨ (ρ[j]? = some c ∧ (j ∈ is → ∀ d, ρ0[j]? ≠ some (.own d))) := by
  unfold backC at h
  rw [List.getElem?_mapIdx] at h
  cases q : ρ[j]? with
  | none => rw [q] at h; cases h
  | some c0 =>
    rw [q] at h
    have h := Option.some.inj h
    by_cases z : j ∈ is
    · simp only [z, if_true] at h
      cases q0 : ρ0[j]? with
      | none => rw [q0] at h; exact .inr ⟨by rw [← h], fun _ d w => by cases w⟩
      | some c1 =>
        rw [q0] at h
        cases c1 with
        | un => exact .inr ⟨by rw [← h], fun _ d w => by cases w⟩
        | fro d1 => exact .inr ⟨by rw [← h], fun _ d w => by cases w⟩
        | own d => exact .inl ⟨d, c0, rfl, z, h.symm, rfl⟩
    · simp only [z, if_false] at h
      exact .inr ⟨by rw [← h], fun w => (z w).elim⟩
/-- the address of what is lent -/
def Lent (is : List Nat) (σ : L2.St) (ρ : Cs) (p : Addr) : Prop := ∃ (i : Nat) (d : D), i ∈ is ∧ ρ[i]? = some (Cell.own d) ∧ σ[i]? = some (some (V.ref p))
/-- G with what is lent -/
noncomputable def plusG (L : Addr → Prop) (G H : Hp) : Hp := fun a => open Classical in if L a then H a else G a
noncomputable def lessG (L : Addr → Prop) (G : Hp) : Hp := fun a => open Classical in if L a then none else G a
theorem plus_in {L : Addr → Prop} {G H : Hp} {a : Addr} (h : L a) : plusG L G H a = H a := if_pos h
theorem plus_out {L : Addr → Prop} {G H : Hp} {a : Addr} (h : ¬ L a) : plusG L G H a = G a := if_neg h
theorem less_in {L : Addr → Prop} {G : Hp} {a : Addr} (h : L a) : lessG L G a = none := if_pos h
theorem less_out {L : Addr → Prop} {G : Hp} {a : Addr} (h : ¬ L a) : lessG L G a = G a := if_neg h
theorem lent_at {is : List Nat} {σ : L2.St} {G H : Hp} {ρ : Cs} (R : Rel K σ G H ρ) (ok : lendOk is ρ) {p : Addr} (h : Lent is σ ρ p) : ∃ o d, H p = some o ∧ G p = none ∧ ObR K G o d ∧ isDictO o = true ∧ Ow σ ρ p := by
  obtain ⟨i, d, h1, h2, h3⟩ := h
  obtain ⟨p', o, e, hp, gp, ob⟩ := R.own i d h2
  rw [h3] at e
  cases e
  refine ⟨o, d, hp, gp, ob, ?_, i, d, h2, h3⟩
  have := ok i h1 d h2
  cases ob with
  | lst _ => cases this
  | dK _ _ => rfl
  | dT _ _ => rfl
theorem rel_lend {is : List Nat} {σ : L2.St} {G H : Hp} {ρ : Cs} (R : Rel K σ G H ρ) (ok : lendOk is ρ) : Rel K σ (plusG (Lent is σ ρ) G H) H (lendC is ρ) ∧ Same G (plusG (Lent is σ ρ) G H) := by
  have sg : Same G (plusG (Lent is σ ρ) G H) := fun a o e => by
    by_cases z : Lent is σ ρ a
    · obtain ⟨o', d, _, gp, _⟩ := lent_at R ok z
      rw [gp] at e; cases e
    · rw [plus_out z]; exact e
  refine ⟨⟨fun a o e => ?_, by unfold lendC; rw [List.length_mapIdx]; exact R.len, fun j d q => ?_, fun j d q => ?_, fun i j p d e h h' s s' => ?_⟩, sg⟩
  · by_cases z : Lent is σ ρ a
    · rwa [plus_in z] at e
    · rw [plus_out z] at e; exact R.gh a o e
  · rcases lend_get q with ⟨d', h1, h2, z⟩ | ⟨h1, _⟩
    · cases z
      obtain ⟨p, o, e, hp, gp, ob⟩ := R.own j d h1
      exact ⟨_, e, ob_rp (ob_same sg ob) (by rw [plus_in ⟨j, d, h2, h1, e⟩]; exact hp)⟩
    · obtain ⟨v, e, r⟩ := R.fro j d h1
      exact ⟨v, e, rp_same sg r⟩
  · rcases lend_get q with ⟨d', _, _, z⟩ | ⟨h1, h2⟩
    · cases z
    · obtain ⟨p, o, e, hp, gp, ob⟩ := R.own j d h1
      refine ⟨p, o, e, hp, ?_, ob_same sg ob⟩
      rw [plus_out]
      · exact gp
      · rintro ⟨i, d', a1, a2, a3⟩
        have := R.apart i j p d' d a2 h1 a3 e
        subst this
        exact h2 d rfl a1
  · rcases lend_get h with ⟨_, _, _, z⟩ | ⟨h1, _⟩
    · cases z
    · rcases lend_get h' with ⟨_, _, _, z⟩ | ⟨h2, _⟩
      · cases z
      · exact R.apart i j p d e h1 h2 s s'
/-- and given back -/
theorem rel_back2 {is : List Nat} {σ : L2.St} {G H G2 H2 : Hp} {ρ ρ2 : Cs} (R : Rel K σ G H ρ) (ok : lendOk is ρ) (R2 : Rel K σ G2 H2 ρ2) (l : Lk 0 σ (plusG (Lent is σ ρ) G H) H (lendC is ρ) σ G2 H2 ρ2) (lk : lentOk (lendC is ρ) ρ2) :
    Rel K σ (lessG (Lent is σ ρ) G2) H2 (backC is ρ ρ2) ∧ Lk 0 σ G H ρ σ (lessG (Lent is σ ρ) G2) H2 (backC is ρ ρ2) ∧ Less G2 (lessG (Lent is σ ρ) G2) := by
  obtain ⟨R1, sg⟩ := rel_lend R ok
  have at2 : ∀ p, Lent is σ ρ p → ∃ o d, G2 p = some o ∧ H2 p = some o ∧ H p = some o ∧ ObR K G o d ∧ isDictO o = true := fun p z => by
    obtain ⟨o, d, hp, gp, ob, di, _⟩ := lent_at R ok z
    have g2 : G2 p = some o := l.st.gg p o (by rw [plus_in z]; exact hp)
    exact ⟨o, d, g2, R2.gh p o g2, hp, ob, di⟩
  have sg3 : Same G (lessG (Lent is σ ρ) G2) := fun a o e => by
    by_cases z : Lent is σ ρ a
    · obtain ⟨_, _, _, gp, _⟩ := lent_at R ok z
      rw [gp] at e; cases e
    · rw [less_out z]; exact l.st.gg a o (sg a o e)
  have le : Less G2 (lessG (Lent is σ ρ) G2) := ⟨fun a o e n => by
    by_cases z : Lent is σ ρ a
    · obtain ⟨o', _, g2, _, _, _, di⟩ := at2 a z
      rw [e] at g2
      cases g2
      rw [n] at di; cases di
    · rw [less_out z]; exact e⟩
  have ow2 : ∀ p, Ow σ (lendC is ρ) p → Ow σ ρ p := by
    rintro p ⟨i, d, h1, h2⟩
    rcases lend_get h1 with ⟨_, _, _, z⟩ | ⟨h3, _⟩
    · cases z
    · exact ⟨i, d, h3, h2⟩
  -- a slot that is owned behind and was not lent
  have other : ∀ (j : Nat) (d : D), ρ2[j]? = some (.own d) → ∃ p o, σ[j]? = some (some (V.ref p)) ∧ H2 p = some o ∧ G2 p = none ∧ ObR K G2 o d ∧ ¬ Lent is σ ρ p := fun j d h => by
    obtain ⟨p, o, e, hp, gp, ob⟩ := R2.own j d h
    refine ⟨p, o, e, hp, gp, ob, fun z => ?_⟩
    obtain ⟨_, _, g2, _⟩ := at2 p z
    rw [gp] at g2; cases g2
  have mine : ∀ (j : Nat) (d : D), (backC is ρ ρ2)[j]? = some (.own d) → (j ∈ is ∧ ρ[j]? = some (.own d)) ∨ ρ2[j]? = some (.own d) := fun j d h => by
    rcases back_get h with ⟨d', _, h1, h2, z, _⟩ | ⟨h1, _⟩
    · cases z; exact .inl ⟨h2, h1⟩
    · exact .inr h1
  refine ⟨⟨fun a o e => ?_, by unfold backC; rw [List.length_mapIdx]; exact R2.len, fun j d q => ?_, fun j d q => ?_, fun i j p d e h h' s s' => ?_⟩, ⟨⟨sg3, fun a o n e => l.st.hh a o (fun z => n (ow2 a z)) e, fun a o n e g t => ?_, l.st.dom⟩, fun p w => ?_, fun _ _ => rfl⟩, le⟩
  · by_cases z : Lent is σ ρ a
    · rw [less_in z] at e; cases e
    · rw [less_out z] at e; exact R2.gh a o e
  · rcases back_get q with ⟨_, _, _, _, z, _⟩ | ⟨h1, h2⟩
    · cases z
    · rcases lend_get (lk.1 j d h1) with ⟨d', a1, a2, z⟩ | ⟨a1, _⟩
      · exact (h2 a2 d' a1).elim
      · obtain ⟨v, e, r⟩ := R.fro j d a1
        exact ⟨v, e, rp_same sg3 r⟩
  · rcases mine j d q with ⟨h1, h2⟩ | h1
    · obtain ⟨p, o, e, hp, gp, ob⟩ := R.own j d h2
      have z : Lent is σ ρ p := ⟨j, d, h1, h2, e⟩
      obtain ⟨o', _, _, hp2, hp1, _, _⟩ := at2 p z
      rw [hp] at hp1
      cases hp1
      exact ⟨p, o, e, hp2, less_in z, ob_same sg3 ob⟩
    · obtain ⟨p, o, e, hp, gp, ob, nl⟩ := other j d h1
      exact ⟨p, o, e, hp, by rw [less_out nl]; exact gp, ob_less le (lk.2 j d h1) ob⟩
  · rcases mine i d h with ⟨a1, a2⟩ | a1
    · rcases mine j e h' with ⟨b1, b2⟩ | b1
      · exact R.apart i j p d e a2 b2 s s'
      · obtain ⟨p', o, e', _, _, _, nl⟩ := other j e b1
        rw [s'] at e'
        cases e'
        exact (nl ⟨i, d, a1, a2, s⟩).elim
    · rcases mine j e h' with ⟨b1, b2⟩ | b1
      · obtain ⟨p', o, e', _, _, _, nl⟩ := other i d a1
        rw [s] at e'
        cases e'
        exact (nl ⟨j, e, b1, b2, s'⟩).elim
      · exact R2.apart i j p d e a1 b1 s s'
  · by_cases z : Lent is σ ρ a
    · exact less_in z
    · rw [less_out z]
      exact l.st.fr a o (fun y => n (ow2 a y)) e (by rw [plus_out z]; exact g) t
  · obtain ⟨j, d, h1, h2⟩ := w
    rcases mine j d h1 with ⟨_, a2⟩ | a1
    · exact .inl ⟨j, d, a2, h2⟩
    · rcases l.sb p ⟨j, d, a1, h2⟩ with z | z
      · exact .inl (ow2 p z)
      · exact .inr z
theorem se_lend {is : List Nat} (h : SE K (fE K) X e m) : SE K (fE K) X e (mLend is m) := by
  refine ⟨fun ρ k k' w q => ⟨q.1, h.mono _ _ _ (fun d ρ2 z => ⟨z.1, z.2.1, w _ _ z.2.2⟩) q.2⟩, pe_weak h.pe fun σ H Q ⟨G, ρ, R, ok, q⟩ => ?_⟩
  refine ⟨_, _, (rel_lend R ok).1, h.mono _ _ _ (fun d ρ2 z v G2 H2 R2 l r => ?_) q⟩
  obtain ⟨R3, l3, le⟩ := rel_back2 R ok R2 l z.2.1
  exact z.2.2 v _ H2 R3 l3 (rp_less le z.1 r)
theorem se_lendF {is : List Nat} (h : SE K (fF K) X e m) : SE K (fF K) X e (mLendF is m) := by
  refine ⟨fun ρ k k' w q => ⟨q.1, h.mono _ _ _ (fun d ρ2 z => ⟨z.1, z.2.1, w _ _ z.2.2⟩) q.2⟩, pe_weak h.pe fun σ H Q ⟨G, ρ, R, ok, q⟩ => ?_⟩
  refine ⟨_, _, (rel_lend R ok).1, h.mono _ _ _ (fun d ρ2 z v G2 H2 R2 l r => ?_) q⟩
  obtain ⟨R3, l3, le⟩ := rel_back2 R ok R2 l z.2.1
  obtain ⟨p, o, ev, h0, nw, hp, gp, ob⟩ := r
  have g3 : lessG (Lent is σ ρ) G2 p = none := by
    by_cases y : Lent is σ ρ p
    · exact less_in y
    · rw [less_out y]; exact gp
  refine z.2.2 v _ H2 R3 l3 ⟨p, o, ev, h0, fun y => ?_, hp, g3, ob_less le z.1 ob⟩
  rcases l3.sb p y with u | u
  · exact R.old u h0
  · obtain ⟨j, d', a1, a2⟩ := y
    rcases back_get a1 with ⟨d2, _, b1, b2, b3, _⟩ | ⟨b1, _⟩
    · exact R.old ⟨j, d2, b1, a2⟩ u
    · exact nw ⟨j, d', b1, a2⟩
end
end Dl

set_option Elab.async false
set_option linter.all false
set_option maxRecDepth 100000
set_option maxHeartbeats 4000000
/-! sorted(d.items()), of a dict from texts to numbers. -/
namespace Dl
open PySem PySem.Spec PyProof.Rows L2 Br
section
variable {prog : Program} {w : World} {A : Around} {E : Value → Shared → Prop} {s : Shared}
/-- sorted(view), the tuples new -/
theorem sorted_view {r d : Addr} {kvs : List (Key × Value)} {ep : Nat} {shape : Nat → Bool} {Q : Value → Shared → Prop} (calm : A.handled = none) (vw : s.heap.IsItemsView r d) (dd : s.heap.DictAt (mixKind prog w) d kvs ep) (few : kvs.length ≤ sizeLine)
    (ht : ∀ (h1 h2 : Heap) (as : List Addr), as.length = kvs.length → PySem.W.KdxG (mixKind prog w) kvs s.heap.objs.size h1 as → (∀ b o, h1.get? b = some o → h2.get? b = some o) → (∃ fs, TupsOf h2 shape (as.map Value.ref) fs) ∧ ∀ v ∈ as.map Value.ref, ∃ x, G.tupKeyC h2 shape v = some x)
    (h : ∀ (h1 h2 : Heap) (tk : Nat) (as : List Addr) (st' : SortSt), (∀ b o, s.heap.get? b = some o → h1.get? b = some o) → as.length = kvs.length → PySem.W.KdxG (mixKind prog w) kvs s.heap.objs.size h1 as → h2 = h1.push (seqObj "list" (as.map Value.ref).toArray 0) →
      (arrOf st').Perm (pairsOf (as.map Value.ref)) → SortedToK (G.tupKindC h2 shape) (arrOf st') (pairsOf (as.map Value.ref)).size → Q (.ref h1.objs.size) { s with heap := sortedHeap h2 h1.objs.size (as.map Value.ref) ((arrOf st').map (·.2)), toks := tk }) :
    wpAny (model prog w) A (call (.builtin "sorted") [.ref r]) Q E s := by
  refine Calls.call_function_entry kind_sorted plain_sorted entry_sorted (args_sorted1 _) ?_
  unfold Builtin.«sorted»
  refine wpAny_bind (m := checkCount "sorted" 1 1 _) (wpAny_pure (wpAny_bind (PySem.W.kdx_collect (A := A.in1) (knd := mixKind prog w) (kvs := kvs) (ep := ep) calm vw dd few fun h1 tk as k1 hl hG => ?_)))
  have lz : (as.map Value.ref).length ≤ sizeLine := by rw [List.length_map, hl]; exact few
  refine wpAny_bind (wpAny_newList ?_ lz)
  have new : (h1.push (seqObj "list" (as.map Value.ref).toArray 0)).get? h1.objs.size = some (seqObj "list" (as.map Value.ref).toArray 0) := Heap.get?_push_size _ rfl
  obtain ⟨⟨fs, hf⟩, hkey⟩ := ht h1 (h1.push (seqObj "list" (as.map Value.ref).toArray 0)) as hl hG fun b o e => Heap.get?_push_of_some _ e
  show wpAny _ _ _ _ _ { s with heap := h1.push (seqObj "list" (as.map Value.ref).toArray 0), toks := tk }
  refine wpAny_bind (wpAny_holding (wpAny_call_entry slot_list_sort ⟨_, new, rfl⟩ entry_list_sort (G.list_sort_tups new hf hkey lz fun st' a1 a2 a3 => ⟨_, rfl, ?r⟩) (args_list_sort _)))
  case r => exact wpAny_pure ⟨_, rfl, h h1 _ tk as st' k1 hl hG rfl a1 a2⟩
end
section
variable {X : Cx} {pins : List (Addr × Obj)} {σ : L2.St} {H : Hp} {s : Shared}
/-- the tuples of a view, tracked -/
theorem tups_laid {h' : Heap} {tk : Nat} {kvs : List (Key × V)} {vs : List (Key × Value)} {as : List Addr} (I : Inv X pins σ H s) (kv : KV kvs vs) (hk : ∀ b o, s.heap.get? b = some o → h'.get? b = some o) (hl : as.length = vs.length) (hG : PySem.W.KdxG (mixKind X.prog X.w) vs s.heap.objs.size h' as) :
    ∃ H' : Hp, (∀ b, b ∉ as → H' b = H b) ∧ (∀ t ∈ as, H t = none) ∧ Paired (fun (t : Addr) (q : Key × V) => H' t = some (.tup [kV q.1, q.2])) as kvs ∧ Inv X pins σ H' { s with heap := h', toks := tk } := by
  have lk : kvs.length = vs.length := Paired.length kv
  have nd : as.Nodup := hG.rise.imp fun {a b} (h : a < b) => Nat.ne_of_lt h
  have new : ∀ t ∈ as, H t = none := fun t ht => I.hok.fresh (Nat.le_of_lt (hG.above t ht))
  have at_ := LiI.putT_at as kvs H (by omega) nd
  have off : ∀ b, b ∉ as → LiI.putT H as kvs b = H b := fun b hb => LiI.putT_off as kvs H hb
  have low : ∀ b o, s.heap.get? b = some o → b ∉ as := fun b o e z => absurd (Heap.lt_size e) (Nat.not_lt.mpr (Nat.le_of_lt (hG.above b z)))
  have kp : ∀ b u, H b = some u → LiI.putT H as kvs b = some u := fun b u e => by
    rw [off b fun z => by rw [new b z] at e; cases e]
    exact e
  refine ⟨LiI.putT H as kvs, off, new, at_, ?_⟩
  refine I.call' (ch := []) rfl ⟨fun b o q _ _ _ => hk b o q, fun b o q _ _ _ => ⟨o.slots, hk b o q⟩, fun b o q n _ => by rw [off b (low b o q)]; exact n, fun b o q _ => ⟨o, hk b o q⟩, fun b xs q => kp b _ q, fun b o u q => kp b _ q, fun b ps q => ⟨#[], by rw [kp b _ q]; simp⟩⟩ (fun b u q => ?_) I.bare fun b z => by simp at z
  by_cases hb : b ∈ as
  · obtain ⟨j, pk, e1, e2, e3⟩ := LiI.paired_ix at_ hb
    rw [e3] at q
    cases q
    obtain ⟨key, k, x, f1, f2, f3⟩ := hG.pairs j b e1
    obtain ⟨qv, g1, g2, g3⟩ := LiI.paired_get kv e2
    rw [f1] at g1
    cases g1
    have rk : RelV (kV pk.1) key := by
      rw [g2]
      exact relV_key (show keyIs k key = true from f2)
    exact ⟨Nat.le_trans (show 2 ≤ 1000 by decide) (show 1000 ≤ sizeLine by decide), [key, x], .cons rk (.cons g3 .nil), ⟨_, f3, rfl, _, rfl⟩⟩
  · rw [off b hb] at q
    exact (I.hok b u q).stay (fun d v _ y => hk d v y) (fun d y => kp d _ y) fun d xs y => kp d _ y
end
/-- the entries as tuples -/
def itm (p : D × D) : D := .tuple .mad [p.1, p.2]
def isKV (p : D × D) : Bool := match p with
  | (.str _, .int _) => true
  | _ => false
def oSortedItems : O1 := fun a k => match a with
  | .dict ps => ps.all isKV = true ∧ ∀ ds' : List D, ds'.Perm (ps.map itm) → ds'.Pairwise (fun x y => ltN (prOf y) (prOf x) = false) → k (.list ds')
  | _ => False
theorem mo_sortedItems : Mo1 oSortedItems := fun a k k' w h => by
  cases a <;> first | exact h.elim | exact ⟨h.1, fun ds' p q => w _ (h.2 ds' p q)⟩
section
variable {K : PySem.W.Frag} {X : Cx} {e : Expr} {ma : ME} {p apos cpos pos : Pos}
/-- a dict from texts to numbers, as it lies -/
theorem kv_dict {G H : Hp} {x : V} {ps : List (D × D)} (g : Same G H) (hx : Vw K G H x (.dict ps)) (hall : ps.all isKV = true) : ∃ (a : Addr) (ns : List (Str × Int)), x = .ref a ∧ (Rd H a (.dK (ns.map fun n => (Sum.inr n.1, V.int n.2))) ∨ (ns = [] ∧ ∃ z, Rd H a (.dT z) ∧ z = [])) ∧ ps = ns.map fun n => (D.str n.1, D.int n.2) := by
  obtain ⟨a, rfl, ⟨ks, xs, ds, rd, hl, ra, rfl⟩ | ⟨ks, xs, ds, rd, hl, ra, rfl⟩⟩ := vw_dict g hx
  · have : ∃ ns : List (Str × Int), ks.zip xs = ns.map (fun n => (Sum.inr n.1, V.int n.2)) ∧ (ks.map keyD).zip ds = ns.map fun n => (D.str n.1, D.int n.2) := by
      clear rd hx
      induction ks generalizing xs ds with
      | nil => exact ⟨[], rfl, rfl⟩
      | cons k ks ih =>
        cases ra with
        | nil => cases hl
        | cons r rs =>
          rename_i v vs d ds
          have h2 : (isKV (keyD k, d) && ((ks.map keyD).zip ds).all isKV) = true := hall
          rw [Bool.and_eq_true] at h2
          obtain ⟨ns, e1, e2⟩ := ih vs ds (Nat.succ.inj hl) rs h2.2
          have h3 := h2.1
          cases k with
          | inl i => cases h3
          | inr z =>
            cases d <;> first | cases h3 | skip
            cases r
            exact ⟨(z, _) :: ns, by rw [List.map_cons, ← e1]; rfl, by
              show (D.str z, D.int _) :: (ks.map keyD).zip ds = _ :: ns.map _
              rw [e2]⟩
    obtain ⟨ns, e1, e2⟩ := this
    exact ⟨a, ns, rfl, .inl (by rw [← e1]; exact rd), e2⟩
  · cases ks with
    | nil => exact ⟨a, [], rfl, .inr ⟨rfl, _, rd, rfl⟩, rfl⟩
    | cons k ks =>
      cases ra with
      | nil => cases hl
      | cons r rs =>
        rename_i v vs d ds
        have h2 : (isKV (.tuple .mad (k.map keyD), d) && _) = true := hall
        rw [Bool.and_eq_true] at h2
        exact absurd h2.1 (by cases d <;> simp [isKV])
/-- the entries, as the heap has them -/
theorem dk_names {H : Hp} {s : Shared} {pins : List (Addr × Obj)} {σ : L2.St} {a : Addr} {ns : List (Str × Int)} (I : Inv X pins σ H s) (h : Rd H a (.dK (ns.map fun n => (Sum.inr n.1, V.int n.2))) ∨ (ns = [] ∧ ∃ z, Rd H a (.dT z) ∧ z = [])) :
    ns.length ≤ sizeLine ∧ (a == sysModules) = false ∧ ∃ vs, KV (ns.map fun n => ((Sum.inr n.1 : Key), V.int n.2)) vs ∧ s.heap.DictOf (mixKind X.prog X.w) a vs := by
  rcases h with h | ⟨rfl, z, h, rfl⟩
  · obtain ⟨l, hs, vs, kv, dof⟩ := dk_rd I.hok h
    rw [List.length_map] at l
    exact ⟨l, hs, vs, kv, dof⟩
  · obtain ⟨hs, dof⟩ := rd0_TK I.hok h
    exact ⟨Nat.zero_le _, hs, [], .nil, dof⟩
theorem kv_at : ∀ {ns : List (Str × Int)} {vs : List (Key × Value)}, KV (ns.map fun n => ((Sum.inr n.1 : Key), V.int n.2)) vs → ∀ (j : Nat) (k : Key) (x : Value), vs[j]? = some (k, x) → ∃ n t, ns[j]? = some n ∧ k = Sum.inr n.1 ∧ x = .int n.2 t
  | [], _, .nil, j, k, x, h => by cases h
  | n :: ns, _, .cons (b := y) r rs, 0, k, x, h => by
    have e : y = (k, x) := Option.some.inj h
    subst e
    obtain ⟨r1, t, r2⟩ := r
    exact ⟨n, t, rfl, r1.symm, r2⟩
  | n :: ns, _, .cons r rs, j + 1, k, x, h => kv_at (ns := ns) rs j k x h
/-- the tuples of the view are names -/
theorem view_names {h1 h2 : Heap} {ns : List (Str × Int)} {vs : List (Key × Value)} {as : List Addr} {lo : Addr} (kv : KV (ns.map fun n => ((Sum.inr n.1 : Key), V.int n.2)) vs) (hl : as.length = vs.length) (hG : PySem.W.KdxG (mixKind X.prog X.w) vs lo h1 as) (k : ∀ b o, h1.get? b = some o → h2.get? b = some o) :
    ∀ (j : Nat) (t : Addr), as[j]? = some t → ∃ n t1 t2, ns[j]? = some n ∧ h2.get? t = some { cls := .type "tuple", data := .seq #[.str n.1 t1, .int n.2 t2] } := fun j t e => by
  obtain ⟨key, kk, x, f1, f2, f3⟩ := hG.pairs j t e
  obtain ⟨n, t2, e1, rfl, rfl⟩ := kv_at kv j kk x f1
  rcases keyIs_shape (show keyIs (Sum.inr n.1) key = true from f2) with ⟨i, t, q, _⟩ | ⟨z, t, q, rfl⟩
  · cases q
  · cases q
    exact ⟨n, t, t2, e1, k _ _ f3⟩
/-- the name that a tuple of the heap is -/
def nmH (h : Heap) : Value → Str × Int
  | .ref t => match h.get? t with
    | some o => match o.data with
      | .seq its _ => match its.toList with
        | [.str z _, .int i _] => (z, i)
        | _ => ("", 0)
      | _ => ("", 0)
    | none => ("", 0)
  | _ => ("", 0)
theorem nmH_at {h : Heap} {t : Addr} {n : Str × Int} {t1 t2 : Tok} (e : h.get? t = some { cls := .type "tuple", data := .seq #[.str n.1 t1, .int n.2 t2] }) : nmH h (.ref t) = n := by
  unfold nmH
  simp only [e]
theorem key_at {h : Heap} {t : Addr} {n : Str × Int} {t1 t2 : Tok} (e : h.get? t = some { cls := .type "tuple", data := .seq #[.str n.1 t1, .int n.2 t2] }) : G.tupKeyC h (fun i => decide (i = 0)) (.ref t) = some (rawKey n) := by
  unfold G.tupKeyC
  have it : G.isTupObj h (.ref t) = true := by
    unfold G.isTupObj
    simp [e]
  rw [if_pos it]
  unfold tupKey
  simp only [e]
  rfl
theorem se_sorted_items (hK : X.K = K) (hc : X.calm = true) (hg : Gl X "sorted") (hm : X.mg "sorted" = none) (ha : SE K (fV K) X e ma) (hbase : attributeBase e "items" X.env (eval e X.env) = eval e X.env := by rfl) (hline : (apos.endLine == cpos.line) = true := by rfl)
    (hse : starEach [Expr.Call (.Attribute e "items" apos) [] [] cpos] X.env = [(false, eval (Expr.Call (.Attribute e "items" apos) [] [] cpos) X.env)] := by rfl) :
    SE K (fF K) X (.Call (.Name "sorted" p) [.Call (.Attribute e "items" apos) [] [] cpos] [] pos) (mUn oSortedItems ma) := by
  subst hK
  refine ⟨mo_un mo_sortedItems ha.mono, ⟨fun pins s σ H Q I hq => ?_⟩⟩
  obtain ⟨G0, ρ, R, q0⟩ := hq
  refine wpAny_Call_Name_kw (ld_blt I hg hm (u := .builtin "sorted") (by first | rfl | decide +kernel) ?_ (by first | decide +kernel | decide) (by first | decide +kernel | decide))
  rw [hse]
  refine PySem.callWith_builtin1 (wpAny_Call_method0_late hbase hline (thn (ha.pe.run pins s σ H (fun v H1 => ∃ G1 ρ1 d, Rel X.K σ G1 H1 ρ1 ∧ Lk 0 σ G0 H ρ σ G1 H1 ρ1 ∧ Vw X.K G1 H1 v d ∧ oSortedItems d fun d' => ∀ v G' H', Rel X.K σ G' H' ρ1 → Lk 0 σ G0 H ρ σ G' H' ρ1 → fF X.K H σ ρ1 G' H' v d' → Q v H') I ⟨G0, ρ, R, ha.mono ρ _ _ (fun d ρ1 q v G1 H1 R1 l1 r1 => ⟨G1, ρ1, d, R1, l1, r1, q⟩) q0⟩) fun v s1 ⟨x, H1, I1, r1, G1, ρ1, d, R1, l1, vw, q⟩ => ?_))
  cases d <;> first | exact q.elim | skip
  rename_i ps
  obtain ⟨hall, q⟩ := q
  obtain ⟨a, ns, rfl, hdk, eps⟩ := kv_dict R1.gh vw hall
  obtain rfl : v = Value.ref a := r1
  obtain ⟨few, hsys, vs, kv, dof⟩ := dk_names I1 hdk
  obtain ⟨ep, dat⟩ := dof.dictAt
  have dat' := dat
  obtain ⟨ob, es, ho, ex, hdat, hko, hpr, hnd⟩ := dat'
  refine ⟨"dict", "dict.items", F.plainAttrs_dict, F.slot_dict_items, F.type_dict_items, ⟨ob, ho, ex.1⟩, fun b e => ?_, Calls.callWith_builtin rfl (PySem.evalArgs_none ?_)⟩
  · cases e
    exact ⟨ob, ho, ex.2.1⟩
  refine call_meetsIn F.slot_dict_items ⟨ob, ho, ex.1⟩ F.entry_dict_items (F.args_dict_items_1 _) (meets_dict_items (mixKind X.prog X.w) a hsys) ⟨⟨vs, dof⟩, ?_⟩
  have I2 : Inv X pins σ H1 { s1 with heap := s1.heap.push { cls := .type "dict_items", data := .fields #[.ref a] } } := I1.kept (t' := s1.toks) fun b ob q => Heap.get?_push_of_some _ q
  have lv : ns.length = vs.length := by have := Paired.length kv; rwa [List.length_map] at this
  let shape : Nat → Bool := fun i => decide (i = 0)
  refine sorted_view (shape := shape) (kvs := vs) (ep := ep) (I1.ok.hd hc) ⟨_, Heap.get?_push_size _ rfl, rfl, rfl⟩ (dat.push _) (by omega) (fun h1 h2 as hl hG k => ?_) fun h1 h2 tk as st' k1 hl hG e2 hp hso => ?_
  · have nm := view_names (X := X) (h2 := h2) kv hl hG k
    have one : ∀ v ∈ as.map Value.ref, ∃ t n t1 t2, v = .ref t ∧ h2.get? t = some { cls := .type "tuple", data := .seq #[.str (n : Str × Int).1 t1, .int n.2 t2] } := fun v hv => by
      obtain ⟨t, ht, rfl⟩ := List.mem_map.mp hv
      obtain ⟨j, hj⟩ := List.mem_iff_getElem?.mp ht
      obtain ⟨n, t1, t2, _, e⟩ := nm j t hj
      exact ⟨t, n, t1, t2, rfl, e⟩
    refine ⟨tups_of fun v hv => ?_, fun v hv => ?_⟩
    · obtain ⟨t, n, t1, t2, rfl, e⟩ := one v hv
      exact ⟨_, t, _, _, _, rfl, e, rfl, rfl, rfl, fun z => (by cases z), fun _ => ⟨_, _, rfl⟩⟩
    · obtain ⟨t, n, t1, t2, rfl, e⟩ := one v hv
      exact ⟨_, key_at e⟩
  · subst e2
    have k2 : ∀ b o, h1.get? b = some o → (h1.push (seqObj "list" (as.map Value.ref).toArray 0)).get? b = some o := fun b o e => Heap.get?_push_of_some _ e
    have nm := view_names (X := X) kv hl hG k2
    obtain ⟨H', off, new, at_, I3⟩ := tups_laid (tk := tk) I2 kv k1 hl hG
    generalize hh2 : h1.push (seqObj "list" (as.map Value.ref).toArray 0) = h2 at nm hso k2
    have zz : (pairsOf (as.map Value.ref)).toList = (as.map Value.ref).zip (as.map Value.ref) := pairsOf_toList _
    have hpl : (arrOf st').toList.Perm ((as.map Value.ref).zip (as.map Value.ref)) := by rw [← zz]; exact hp.toList
    have own : ∀ p ∈ (arrOf st').toList, p.1 = p.2 ∧ p.1 ∈ as.map Value.ref := fun p hm => mem_zip_self (hpl.mem_iff.mp hm)
    have sz : (arrOf st').size = (as.map Value.ref).length := by
      have := hpl.length_eq
      rw [Array.length_toList, List.length_zip] at this
      omega
    have outp : ((arrOf st').toList.map (·.2)).Perm (as.map Value.ref) := by
      have z := hpl.map (·.2)
      rw [List.map_snd_zip (Nat.le_refl _)] at z
      exact z
    have one : ∀ v ∈ as.map Value.ref, ∃ t n t1 t2, v = .ref t ∧ t ∈ as ∧ h2.get? t = some { cls := .type "tuple", data := .seq #[.str (n : Str × Int).1 t1, .int n.2 t2] } := fun v hv => by
      obtain ⟨t, ht, rfl⟩ := List.mem_map.mp hv
      obtain ⟨j, hj⟩ := List.mem_iff_getElem?.mp ht
      obtain ⟨n, t1, t2, _, e⟩ := nm j t hj
      exact ⟨t, n, t1, t2, rfl, ht, e⟩
    have key : ∀ v ∈ as.map Value.ref, G.tupKeyC h2 shape v = some (rawKey (nmH h2 v)) := fun v hv => by
      obtain ⟨t, n, t1, t2, rfl, _, e⟩ := one v hv
      rw [nmH_at e]
      exact key_at e
    -- sorted
    have pw : ((arrOf st').toList.map (·.2)).Pairwise (fun x y => ltN (nmH h2 y) (nmH h2 x) = false) := by
      rw [List.pairwise_iff_getElem]
      intro i j hi hj hij
      have hi' : i < (arrOf st').size := by
        rw [List.length_map, Array.length_toList] at hi
        exact hi
      have hj' : j < (arrOf st').size := by
        rw [List.length_map, Array.length_toList] at hj
        exact hj
      have kk : ∀ n (hn : n < (arrOf st').size), KK (G.tupKindC h2 shape) (arrOf st') n = rawKey (nmH h2 ((arrOf st')[n]).2) := fun n hn => by
        have m : (arrOf st')[n] ∈ (arrOf st').toList := by
          rw [← Array.getElem_toList]
          exact List.getElem_mem _
        obtain ⟨o1, o2⟩ := own _ m
        unfold KK
        rw [Array.getElem?_eq_getElem hn]
        show (G.tupKeyC h2 shape ((arrOf st')[n]).1).getD [] = _
        rw [key _ o2, ← o1]
        rfl
      have z := hso i j (Nat.le_of_lt hij) (by
        have : (pairsOf (as.map Value.ref)).size = (as.map Value.ref).length := by rw [← Array.length_toList, zz, List.length_zip]; omega
        omega)
      rw [kk i hi', kk j hj'] at z
      have z' : (listOrd itemOrd).blt (rawKey (nmH h2 ((arrOf st')[j]).2)) (rawKey (nmH h2 ((arrOf st')[i]).2)) = false := z
      rw [raw_lt] at z'
      simp only [List.getElem_map, Array.getElem_toList]
      exact z'
    have oute : ((arrOf st').map (·.2)).toList = (arrOf st').toList.map (·.2) := Array.toList_map
    generalize (arrOf st').toList.map (·.2) = out at outp pw oute
    have names : as.map (fun t => nmH h2 (.ref t)) = ns := by
      refine List.ext_getElem? fun j => ?_
      rw [List.getElem?_map]
      by_cases hj : j < as.length
      · obtain ⟨n, t1, t2, e1, e2⟩ := nm j _ (List.getElem?_eq_getElem hj)
        rw [List.getElem?_eq_getElem hj, e1]
        show some (nmH h2 (.ref as[j])) = some n
        rw [nmH_at e2]
      · rw [List.getElem?_eq_none (by omega), List.getElem?_eq_none (by omega)]
        rfl
    have h3 : ∀ u ∈ out, ∃ a, u = Value.ref a := fun u hu => by
      obtain ⟨t, n, t1, t2, rfl, _⟩ := one u (outp.mem_iff.mp hu)
      exact ⟨t, rfl⟩
    -- what is laid
    have lenO : out.length = ns.length := by rw [outp.length_eq, List.length_map, hl, lv]
    have atL : h2.get? h1.objs.size = some (seqObj "list" (as.map Value.ref).toArray 0) := by rw [← hh2]; exact Heap.get?_push_size _ rfl
    obtain ⟨ee, hn⟩ := sortedHeap_at (vs := as.map Value.ref) (out := (arrOf st').map (·.2)) atL
    have big : ∀ t ∈ as, t < h1.objs.size := fun t ht => by
      obtain ⟨j, hj⟩ := List.mem_iff_getElem?.mp ht
      obtain ⟨_, _, _, _, _, f3⟩ := hG.pairs j t hj
      exact Heap.lt_size f3
    have nP : h1.objs.size ∉ as := fun z => Nat.lt_irrefl _ (big _ z)
    have fP : H' h1.objs.size = none := I3.hok.fresh (Nat.le_refl _)
    have fP1 : H1 h1.objs.size = none := by rw [← off _ nP]; exact fP
    have kh : ∀ b o, h1.get? b = some o → (sortedHeap h2 h1.objs.size (as.map Value.ref) ((arrOf st').map (·.2))).get? b = some o := fun b o z =>
      (sortedHeap_old (Nat.ne_of_lt (Heap.lt_size z)) (Heap.lt_size (k2 _ _ z))).trans (k2 _ _ z)
    refine ⟨.ref h1.objs.size, upd H' h1.objs.size (.lst (out.map backV)), I3.laid (t' := tk) kh (Nat.le_refl _) ⟨by rw [List.length_map, lenO]; exact few, out, ee, vals_back h3, by rw [hn, ← oute, Array.toArray_toList]⟩, rfl, ?_⟩
    -- by data
    have sg : ∀ b o, H1 b = some o → b ∉ as ∧ b ≠ h1.objs.size := fun b o z => by
      refine ⟨fun y => ?_, fun y => ?_⟩
      · rw [new b y] at z; cases z
      · rw [y, fP1] at z; cases z
    have up : ∀ b o, H1 b = some o → upd H' h1.objs.size (.lst (out.map backV)) b = some o := fun b o z => by
      obtain ⟨y1, y2⟩ := sg b o z
      rw [upd_ne y2, off b y1]
      exact z
    let G' : Hp := fun b => if b ∈ as then H' b else G1 b
    have gin : ∀ b, b ∈ as → G' b = H' b := fun b y => if_pos y
    have gout : ∀ b, b ∉ as → G' b = G1 b := fun b y => if_neg y
    have gh : Same G' (upd H' h1.objs.size (.lst (out.map backV))) := fun b o z => by
      by_cases y : b ∈ as
      · rw [gin b y] at z
        have ne : b ≠ h1.objs.size := fun u => nP (by rw [← u]; exact y)
        rw [upd_ne ne]
        exact z
      · rw [gout b y] at z
        exact up b o (R1.gh b o z)
    have st : Stp Pure G1 H1 G' (upd H' h1.objs.size (.lst (out.map backV))) := ⟨fun b o z => by rw [gout b (sg b o (R1.gh b o z)).1]; exact z, fun b o _ z => up b o z, fun b o _ z g _ => by rw [gout b (sg b o z).1]; exact g, fun b z => by
      cases y : H1 b with
      | none => rfl
      | some o => rw [up b o y] at z; cases z⟩
    have rows : ∀ v ∈ out, Rp X.K G' (backV v) (.tuple .mad [.str (nmH h2 v).1, .int (nmH h2 v).2]) := fun v hv => by
      obtain ⟨t, n, t1, t2, rfl, ht, e⟩ := one v (outp.mem_iff.mp hv)
      obtain ⟨j, pk, e1, e2, e3⟩ := LiI.paired_ix at_ ht
      rw [List.getElem?_map] at e2
      obtain ⟨n', f1, f2⟩ := Option.map_eq_some_iff.mp e2
      obtain ⟨n'', t1', t2', g1, g2⟩ := nm j t e1
      rw [f1] at g1
      cases g1
      rw [nmH_at g2]
      subst f2
      exact .tup (xs := [V.str n'.1, V.int n'.2]) (by rw [gin t ht]; exact e3) (.cons (.str _) (.cons (.int _) .nil))
    have all : RpAll X.K G' (out.map backV) (out.map fun v => D.tuple .mad [.str (nmH h2 v).1, .int (nmH h2 v).2]) := by
      clear pw outp oute h3 lenO gh st up hn
      induction out with
      | nil => exact .nil
      | cons v out ih => exact .cons (rows v List.mem_cons_self) (ih fun u hu => rows u (List.mem_cons_of_mem _ hu))
    refine q (out.map fun v => D.tuple .mad [.str (nmH h2 v).1, .int (nmH h2 v).2]) ?_ ?_ _ G' _ (R1.pure st gh) (l1.trans (.pure st)) ⟨_, _, rfl, l1.st.dom _ fP1, fun z => R1.old z fP1, upd_same, by rw [gout _ nP]; exact R1.gh.free fP1, .lst all⟩
    · have e4 : ps.map itm = (as.map Value.ref).map fun v => D.tuple .mad [.str (nmH h2 v).1, .int (nmH h2 v).2] := by
        rw [eps, ← names, List.map_map, List.map_map, List.map_map]
        rfl
      rw [e4]
      exact outp.map _
    · rw [List.pairwise_map]
      exact pw
end
end Dl

set_option Elab.async false
set_option linter.all false
set_option maxRecDepth 100000
set_option maxHeartbeats 4000000
/-! dict(xs) of a list of pairs whose keys are tuples. -/
namespace Dl
open PySem PySem.Spec PyProof.Rows L2 Br
/-- the pairs that a dict is made of: keys tuples of texts or numbers -/
def tprs : List D → Option (List (List Key × D))
  | [] => some []
  | .tuple _ [.tuple .mad ks, v] :: r => match keysOf ks, tprs r with
    | some q, some rs => some ((q, v) :: rs)
    | _, _ => none
  | _ => none
def mergeT (acc : List (D × D)) (more : List (List Key × D)) : List (D × D) := more.foldl (fun acc kv => putKs acc (.inr kv.1) (.tuple .mad (kv.1.map keyD)) kv.2) acc
def oDict_tpairs : O1 := fun a k => match a with
  | .list ds => match tprs ds with
    | some ps => k (.dict (mergeT [] ps))
    | none => False
  | _ => False
theorem mo_dictT : Mo1 oDict_tpairs := fun a k k' w h => by
  unfold oDict_tpairs at h ⊢
  split at h
  · split at h
    · exact w _ h
    · exact h.elim
  · exact h.elim
/-- a pair as it lies: the tuple, its key, its value -/
structure TPair (K : PySem.W.Frag) (G H : Hp) (v : V) (p : Addr) (kv : List Key × D) (q : Addr × V) : Prop where
  ref : v = .ref p
  sq : SqT K H p [.ref q.1, q.2]
  key : H q.1 = some (.tup (kv.1.map kV))
  val : Rp K G q.2 kv.2
section
variable {K : PySem.W.Frag} {X : Cx} {a : Expr} {ma : ME} {pos : Pos}
theorem kvs_V {G H : Hp} : ∀ {ks : List Key} {ys : List V}, RpAll K G ys (ks.map keyD) → ys = ks.map kV
  | [], _, .nil => rfl
  | k :: ks, _, .cons r rs => by
    rw [List.map_cons, key_val (H := H) (.fro r), kvs_V (H := H) rs]
theorem tprs_V {G H : Hp} (g : Same G H) : ∀ {vs : List V} {ds : List D} {ps : List (List Key × D)}, RpAll K G vs ds → tprs ds = some ps → ∃ (as : List Addr) (qs : List (Addr × V)), as.length = ps.length ∧ qs.length = ps.length ∧ vs = as.map V.ref ∧
    ∀ (j : Nat) (p : Addr) (kv : List Key × D) (q : Addr × V), as[j]? = some p → ps[j]? = some kv → qs[j]? = some q → TPair K G H (.ref p) p kv q
  | _, _, _, .nil, h => by
    cases h
    exact ⟨[], [], rfl, rfl, rfl, fun j p kv q e => nomatch e⟩
  | _, _, _, .cons (d := d) r rs, h => by
    unfold tprs at h
    split at h
    · rename_i e; cases e
    · rename_i c ks v r' e
      cases e
      split at h
      · rename_i q rs' e1 e2
        cases h
        obtain ⟨as, qs, l1, l2, rfl, hh⟩ := tprs_V g rs e2
        have ek := keysOf_inv e1
        subst ek
        obtain ⟨b, ys, rfl, sq, ry, _⟩ := rp_tup r
        obtain ⟨x, y, rfl, r1, r2⟩ := rps2 ry
        obtain ⟨b2, zs, rfl, _, rz, tr⟩ := rp_tup r1
        have ez := kvs_V (H := H) rz
        subst ez
        refine ⟨b :: as, (b2, y) :: qs, by rw [List.length_cons, List.length_cons, l1], by rw [List.length_cons, List.length_cons, l2], rfl, fun j p kv q' x1 x2 x3 => ?_⟩
        cases j with
        | zero =>
          cases x1
          cases x2
          cases x3
          exact ⟨rfl, sqT_same g sq, g _ _ (tr rfl), r2⟩
        | succ j => exact hh j p kv q' x1 x2 x3
      · cases h
    · cases h
def mergeKT (kvs more : List (List Key × V)) : List (List Key × V) := more.foldl (fun acc kv => putK acc kv.1 kv.2) kvs
theorem kt_merge {H : Hp} : ∀ {more : List (List Key × V)} {rs : List (List Key × Addr × Value)} {kvs : List (List Key × V)} {xs : List (List Key × Addr × Value)}, KT H more rs → KT H kvs xs → KT H (mergeKT kvs more) (storedAllH xs rs)
  | [], _, _, _, .nil, h => h
  | p :: more, _, kvs, xs, .cons (b := q) r rs, h => by
    obtain ⟨e, hb, ry⟩ := r
    refine kt_merge (more := more) (kvs := putK kvs p.1 p.2) (xs := storedH xs q.1 q.2.1 q.2.2) rs ?_
    rw [← e]
    exact h.put p.1 hb ry
theorem len_putK {kvs : List (List Key × V)} {k : List Key} {v : V} : (putK kvs k v).length ≤ kvs.length + 1 := by
  unfold putK
  split
  · rw [List.length_map]; omega
  · rw [List.length_append]; exact Nat.le_refl _
theorem len_mergeKT : ∀ {more kvs : List (List Key × V)}, (mergeKT kvs more).length ≤ kvs.length + more.length
  | [], kvs => Nat.le_refl _
  | p :: more, kvs => by
    have h1 := len_mergeKT (more := more) (kvs := putK kvs p.1 p.2)
    have h2 := len_putK (kvs := kvs) (k := p.1) (v := p.2)
    show (mergeKT (putK kvs p.1 p.2) more).length ≤ kvs.length + (more.length + 1)
    omega
theorem mergeT_ob {G : Hp} : ∀ {ps : List (List Key × D)} {qs : List V} {acc : List (List Key × V)} {dcc : List (D × D)}, RpAll K G qs (ps.map (·.2)) → ObR K G (.dT acc) (.dict dcc) → ObR K G (.dT (mergeKT acc ((ps.map (·.1)).zip qs))) (.dict (mergeT dcc ps))
  | [], _, _, _, .nil, o => o
  | (k, d) :: ps, _, acc, dcc, .cons (v := v) r rs, o => by
    refine mergeT_ob (ps := ps) (acc := putK acc k v) (dcc := putKs dcc (.inr k) (.tuple .mad (k.map keyD)) d) rs ?_
    generalize eo : HO.dT acc = ob at o
    generalize ed : D.dict dcc = dd at o
    cases o with
    | lst _ => cases eo
    | dK _ _ => cases eo
    | dT hl ra =>
      cases eo
      cases ed
      exact put_T hl ra r
theorem callr_dictT (hc : X.calm = true) (hu : X.A.units + 65 < cLine) : CallR X (.type "dict") (fun xs H Q => ∃ x, xs = [x] ∧ rO1 X.K (pF X.K) oDict_tpairs x H Q) := by
  intro pins s σ H xs us Q I r h
  obtain ⟨x, rfl, G, d, g, hx, q⟩ := h
  unfold oDict_tpairs at q
  split at q
  · rename_i ds
    split at q
    · rename_i ps e
      obtain ⟨p, vs, rfl, rd, ra⟩ := vw_list g hx
      obtain ⟨as, qs, l1, l2, rfl, each⟩ := tprs_V g ra e
      obtain ⟨u, rfl, ru⟩ := vals1 r
      cases (show u = Value.ref p from ru)
      obtain ⟨its, rv, ⟨ol, n, hol, hcl, hnd, hdat⟩, hz⟩ := I.list (.inl rd)
      have ei := refs_at rv
      subst ei
      rw [List.length_map] at hz
      -- each pair in the heap
      have pr : ∀ j, j < ps.length → ∃ (p b : Addr) (kv : List Key × D) (y : V) (uu : Value), as[j]? = some p ∧ ps[j]? = some kv ∧ qs[j]? = some (b, y) ∧ H b = some (.tup (kv.1.map kV)) ∧ RelV y uu ∧ s.heap.IsTuple p #[.ref b, uu] := fun j hj => by
        have e1 : as[j]? = some as[j] := List.getElem?_eq_getElem (by omega)
        have e2 : ps[j]? = some ps[j] := List.getElem?_eq_getElem hj
        have e3 : qs[j]? = some qs[j] := List.getElem?_eq_getElem (by omega)
        have t := each j _ _ _ e1 e2 e3
        obtain ⟨its2, r2, ht, _⟩ := I.tuple t.sq
        obtain ⟨u1, u2, rfl, ru1, ru2⟩ := vals2 r2
        cases (show u1 = Value.ref qs[j].1 from ru1)
        obtain ⟨o, ho, hc', nn, hd'⟩ := ht
        exact ⟨as[j], qs[j].1, ps[j], qs[j].2, u2, e1, e2, e3, t.key, ru2, o, ho, hc', nn, hd'⟩
      -- their keys and values, as the heap has them
      have ex : ∃ us : List Value, us.length = ps.length ∧ ∀ j, j < ps.length → ∃ (p b : Addr) (kv : List Key × D) (y : V) (uu : Value), us[j]? = some uu ∧ as[j]? = some p ∧ ps[j]? = some kv ∧ qs[j]? = some (b, y) ∧ H b = some (.tup (kv.1.map kV)) ∧ RelV y uu ∧ s.heap.IsTuple p #[.ref b, uu] := by
        have build : ∀ m, m ≤ ps.length → ∃ us : List Value, us.length = m ∧ ∀ j, j < m → ∃ (p b : Addr) (kv : List Key × D) (y : V) (uu : Value), us[j]? = some uu ∧ as[j]? = some p ∧ ps[j]? = some kv ∧ qs[j]? = some (b, y) ∧ H b = some (.tup (kv.1.map kV)) ∧ RelV y uu ∧ s.heap.IsTuple p #[.ref b, uu] := by
          intro m
          induction m with
          | zero => exact fun _ => ⟨[], rfl, fun j h => absurd h (Nat.not_lt_zero _)⟩
          | succ m ih =>
            intro hm
            obtain ⟨us, hl, hu⟩ := ih (by omega)
            obtain ⟨p, b, kv, y, uu, h1, h2, h3, h4, h5, h6⟩ := pr m (by omega)
            refine ⟨us ++ [uu], by rw [List.length_append, hl]; rfl, fun j hj => ?_⟩
            by_cases z : j < m
            · obtain ⟨p, b, kv, y, uu, h0, r⟩ := hu j z
              exact ⟨p, b, kv, y, uu, by rw [List.getElem?_append_left (by omega)]; exact h0, r⟩
            · have : j = m := by omega
              subst this
              exact ⟨p, b, kv, y, uu, by rw [List.getElem?_append_right (by omega), hl]; simp, h1, h2, h3, h4, h5, h6⟩
        exact build _ (Nat.le_refl _)
      obtain ⟨us, lu, each2⟩ := ex
      let hp : List (Value × Value) := (qs.map fun q => Value.ref q.1).zip us
      let ph : List (List Key × Addr × Value) := (ps.map (·.1)).zip ((qs.map (·.1)).zip us)
      have lhp : hp.length = ps.length := by show ((qs.map fun q => Value.ref q.1).zip us).length = _; rw [List.length_zip, List.length_map]; omega
      have lph : ph.length = ps.length := by show ((ps.map (·.1)).zip ((qs.map (·.1)).zip us)).length = _; rw [List.length_zip, List.length_zip, List.length_map, List.length_map]; omega
      have at_ : ∀ j, j < ps.length → ∃ (p b : Addr) (kv : List Key × D) (y : V) (uu : Value), hp[j]? = some (.ref b, uu) ∧ ph[j]? = some (kv.1, b, uu) ∧ as[j]? = some p ∧ ps[j]? = some kv ∧ qs[j]? = some (b, y) ∧ H b = some (.tup (kv.1.map kV)) ∧ RelV y uu ∧ s.heap.IsTuple p #[.ref b, uu] := fun j hj => by
        obtain ⟨p, b, kv, y, uu, h0, h1, h2, h3, h4, h5, h6⟩ := each2 j hj
        refine ⟨p, b, kv, y, uu, ?_, ?_, h1, h2, h3, h4, h5, h6⟩
        · show ((qs.map fun q => Value.ref q.1).zip us)[j]? = _
          rw [List.getElem?_zip_eq_some]
          exact ⟨by rw [List.getElem?_map, h3]; rfl, h0⟩
        · show ((ps.map (·.1)).zip ((qs.map (·.1)).zip us))[j]? = _
          rw [List.getElem?_zip_eq_some]
          refine ⟨by rw [List.getElem?_map, h2]; rfl, ?_⟩
          show ((qs.map (·.1)).zip us)[j]? = _
          rw [List.getElem?_zip_eq_some]
          exact ⟨by rw [List.getElem?_map, h3]; rfl, h0⟩
      have mem : ∀ x ∈ ph, ∃ j, j < ps.length ∧ ph[j]? = some x := fun x hx => by
        obtain ⟨j, hj⟩ := List.mem_iff_getElem?.mp hx
        exact ⟨j, by have := (List.getElem?_eq_some_iff.mp hj).1; omega, hj⟩
      have few : ps.length ≤ sizeLine := by omega
      refine call_dict_pairsH (knd := tupleKind (mixKind X.prog X.w)) (ps := ph) (PairArg.list p (as.map Value.ref).toArray (fun j => as.getD j 0) hp) (I.ok.hd hc) (show X.A.units + 1 + 1 < cLine by omega) ⟨⟨ol, n, hol, hcl, hnd, hdat⟩, by rw [List.size_toArray, List.length_map]; omega, fun j k v hj => ?_⟩ ⟨by omega, fun j k v hj => ?_⟩ (fun h' keep x hx => ?_) (by omega) fun h' tk dd keep => ?_
      · have hlt : j < ps.length := by have := (List.getElem?_eq_some_iff.mp hj).1; omega
        obtain ⟨p', b, kv, y, uu, e1, e2, e3, e4, e5, e6, e7, e8⟩ := at_ j hlt
        rw [e1] at hj
        cases hj
        have eg : as.getD j 0 = p' := by rw [List.getD_eq_getElem?_getD, e3]; rfl
        refine ⟨?_, .inl (by show s.heap.IsTuple (as.getD j 0) _; rw [eg]; exact e8)⟩
        show (as.map Value.ref).toArray[j]? = some (.ref (as.getD j 0))
        rw [eg, List.getElem?_toArray, List.getElem?_map, e3]
        rfl
      · have hlt : j < ps.length := by have := (List.getElem?_eq_some_iff.mp hj).1; omega
        obtain ⟨p', b, kv, y, uu, e1, e2, e3, e4, e5, e6, e7, e8⟩ := at_ j hlt
        have hj' : hp[j]? = some (k, v) := hj
        rw [e1] at hj'
        cases hj'
        exact ⟨_, _, e2, rfl⟩
      · obtain ⟨j, hlt, hj⟩ := mem x hx
        obtain ⟨p', b, kv, y, uu, e1, e2, e3, e4, e5, e6, e7, e8⟩ := at_ j hlt
        rw [e2] at hj
        cases hj
        obtain ⟨o, its2, nn, g1, g2, g3, g4⟩ := key_of I.hok e6
        exact ⟨o, its2, nn, keep b o (Nat.ne_of_lt (Heap.lt_size g1)) (fun z => nomatch z) g1, g2, g3, g4⟩
      · have kt : KT H ((ps.map (·.1)).zip (qs.map (·.2))) ph := by
          have gen : ∀ m, m ≤ ps.length → KT H (((ps.map (·.1)).zip (qs.map (·.2))).take m) (ph.take m) := by
            intro m
            induction m with
            | zero => exact fun _ => .nil
            | succ m ih =>
              intro hm
              obtain ⟨p', b, kv, y, uu, e1, e2, e3, e4, e5, e6, e7, e8⟩ := at_ m (by omega)
              have e9 : ((ps.map (·.1)).zip (qs.map (·.2)))[m]? = some (kv.1, y) := by
                rw [List.getElem?_zip_eq_some]
                exact ⟨by rw [List.getElem?_map, e4]; rfl, by rw [List.getElem?_map, e5]; rfl⟩
              rw [List.take_add_one, List.take_add_one, e9, e2]
              exact Paired.snoc (ih (by omega)) ⟨rfl, e6, e7⟩
          have g := gen ps.length (Nat.le_refl _)
          rwa [List.take_of_length_le (by rw [List.length_zip, List.length_map, List.length_map]; omega), List.take_of_length_le (by omega)] at g
        have big : (s.heap.objs.size == sysModules) = false := beq_eq_false_iff_ne.mpr (Nat.ne_of_gt I.big)
        have len : (mergeKT [] ((ps.map (·.1)).zip (qs.map (·.2)))).length ≤ sizeLine := Nat.le_trans len_mergeKT (by rw [List.length_nil, List.length_zip, List.length_map, List.length_map]; omega)
        obtain ⟨o, es, ep, d1, d2, d3, d4, d5, d6⟩ := dd
        have fr : H s.heap.objs.size = none := I.hok.fresh (Nat.le_refl _)
        have kt2 := (kt_merge kt (.nil : KT H [] [])).keeps (H' := upd H s.heap.objs.size (.dT (mergeKT [] ((ps.map (·.1)).zip (qs.map (·.2)))))) fun b ys z => by rw [upd_ne (ne_of_none z fr)]; exact z
        have vals : RpAll X.K G (qs.map (·.2)) (ps.map (·.2)) := by
          have gen : ∀ m, m ≤ ps.length → RpAll X.K G ((qs.map (·.2)).take m) ((ps.map (·.2)).take m) := by
            intro m
            induction m with
            | zero => exact fun _ => .nil
            | succ m ih =>
              intro hm
              obtain ⟨p', b, kv, y, uu, e1, e2, e3, e4, e5, _⟩ := at_ m (by omega)
              rw [List.take_add_one, List.take_add_one, List.getElem?_map, List.getElem?_map, e4, e5]
              exact rps_app (ih (by omega)) (.cons (each m p' kv (b, y) e3 e4 e5).val .nil)
          have g := gen ps.length (Nat.le_refl _)
          rwa [List.take_of_length_le (by rw [List.length_map]; omega), List.take_of_length_le (by rw [List.length_map]; exact Nat.le_refl _)] at g
        exact ⟨.ref s.heap.objs.size, upd H s.heap.objs.size (.dT (mergeKT [] ((ps.map (·.1)).zip (qs.map (·.2))))), I.laid (t' := tk) (fun b o z => keep b o (fun y => nomatch y) z) (Nat.le_refl _) (show ObjOk X.prog X.w _ _ _ (.dT _) from ⟨len, big, _, kt2, o, es, ep, d1, d2, d3, d4, d6⟩), rfl, newF g q fr (mergeT_ob vals (.dT (ks := []) (xs := []) (ds := []) rfl .nil))⟩
    · exact q.elim
  · exact q.elim
theorem se_dict_tpairs {k : Nat} {p : Pos} (hK : X.K = K) (hc : X.calm = true) (hr : Room k X.A) (hg : Gl X "dict") (hm : X.mg "dict" = none) (ha : SE K (fV K) X a ma) (hs : starEach [a] X.env = [(false, eval a X.env)] := by rfl) (hpl : (backTo pos (starEach [] X.env)).any (·.1) = false := by rfl) :
    SE K (fF K) X (.Call (.Name "dict" p) [a] [] pos) (mUn oDict_tpairs ma) := by
  subst hK
  exact se_t1 (T := "dict") (callr_dictT hc (Room.u65 hr)) (fun y H Q h => ⟨y, rfl, h⟩) mo_dictT embF hg hm (by decide +kernel) ha hs (by decide) (by decide) hpl
end
end Dl

set_option Elab.async false
set_option linter.all false
set_option maxRecDepth 100000
set_option maxHeartbeats 4000000
/-! for v in f(..).values(), of a new dict whose keys are no tuples. -/
namespace Dl
open PySem PySem.Spec PyProof.Rows L2 Br
def dVals : D → Option (List D)
  | .dict ps => if (ps.all fun p => !isTupD p.1) = true then some (ps.map (·.2)) else none
  | _ => none
section
variable {K : PySem.W.Frag} {X : Cx} {e tg : Expr} {m : ME} {apos cpos : Pos}
/-- a new dict, known as it lies from now on -/
theorem pe_lockNew {t : TE} (h : PE X e t) : PE X e (fun σ H Q => t σ H fun x H1 => ∃ a, x = .ref a ∧ ((∃ kvs, H1 a = some (.dK kvs) ∧ (kvs.length ≤ sizeLine → ∀ od, Q x (upd H1 a (.frz od (.dK kvs))))) ∨ (H1 a = some (.dT []) ∧ ∀ od, Q x (upd H1 a (.frz od (.dK [])))))) := by
  refine ⟨fun pins s σ H Q I q => thn (h.run pins s σ H _ I q) fun v s1 ⟨x, H1, I1, rx, a, ex, hq⟩ => ?_⟩
  rcases hq with ⟨kvs, ha, q1⟩ | ⟨ha, q1⟩
  · obtain ⟨od, I2⟩ := I1.lock ha (mut_dic rfl)
    exact ⟨x, _, I2, rx, q1 (dk_of I1.hok ha).1 od⟩
  · obtain ⟨hs, dof⟩ := rd0_TK I1.hok (.inl ha)
    have ob : ∃ u, s1.heap.get? a = some u := by
      obtain ⟨o, _, _, ho, _⟩ := dof
      exact ⟨o, ho⟩
    have I2 : Inv X pins σ (upd H1 a (.dK [])) { s1 with heap := s1.heap, toks := s1.toks } := I1.write (x := a) (e := a) (o := .dK []) (t' := s1.toks) (by rw [ha]; exact mut_dic rfl) (.inl rfl) (fun b u _ z => z) ob ⟨Nat.zero_le _, hs, [], .nil, dof⟩
    obtain ⟨od, I3⟩ := I2.lock (d := a) (upd_same : upd H1 a (.dK []) a = some (.dK [])) (mut_dic rfl)
    have e : upd (upd H1 a (.dK [])) a (.frz od (.dK [])) = upd H1 a (.frz od (.dK [])) := by
      funext b
      by_cases z : b = a
      · subst z; rw [upd_same, upd_same]
      · rw [upd_ne z, upd_ne z, upd_ne z]
    rw [e] at I3
    exact ⟨x, _, I3, rx, q1 od⟩
/-- the walk over its values -/
theorem wk_vals {G : Hp} {a : Addr} {od : Obj} {ks : List Key} {xs : List V} {ds : List D} (hl : ks.length = xs.length) (h : G a = some (.frz od (.dK (ks.zip xs)))) (ra : RpAll K G xs ds) : Wk K (Itd a od (ks.zip xs)) G ds := by
  have ln : (ks.zip xs).length = ds.length := by rw [List.length_zip, hl, Nat.min_self, rps_len ra]
  intro G' H' g gh
  have wk := walk_values (d := a) (o := od) (kvs := ks.zip xs)
  have at_ : H' a = some (.frz od (.dK (ks.zip xs))) := gh _ _ (g _ _ h)
  rw [← ln]
  refine ⟨fun i hi => wk.goes i H' hi at_, wk.stops H' at_, fun i x H3 hi y => ?_⟩
  obtain ⟨rfl, k, e⟩ := wk.yields i H' x H3 hi at_ y
  have ex : xs[i]? = some x := (List.getElem?_zip_eq_some.mp e).2
  obtain ⟨d, e2, r⟩ := rps_get ra ex
  exact ⟨G', d, gh, .refl, e2, rp_same g r⟩
theorem si_values (h : SE K (fF K) X e m) (hbase : attributeBase e "values" X.env (eval e X.env) = eval e X.env := by rfl) (hline : (apos.endLine == cpos.line) = true := by rfl) : SI K X tg (.Call (.Attribute e "values" apos) [] [] cpos) (mItems dVals m) := by
  refine ⟨mo_items h.mono, pi_weak (pi_values (pe_lockNew h.pe) hbase hline) fun σ H R ⟨G, ρ, R0, q⟩ => ⟨G, ρ, R0, h.mono ρ _ _ (fun d ρ1 q v G1 H1 R1 l1 r => ?_) q⟩⟩
  obtain ⟨p, o, rfl, h0, nw, hp, gp, ob⟩ := r
  refine ⟨p, rfl, ?_⟩
  -- the new state
  have go : ∀ (od : Obj) (ks : List Key) (xs : List V) (ds : List D), ks.length = xs.length → RpAll K G1 xs ds → d = .dict ((ks.map keyD).zip ds) → ∃ d o kvs, V.ref p = .ref d ∧ upd H1 p (.frz od (.dK (ks.zip xs))) d = some (.frz o (.dK kvs)) ∧ R (Itd d o kvs) (upd H1 p (.frz od (.dK (ks.zip xs)))) := fun od ks xs ds hl ra ed => by
    subst ed
    refine ⟨p, od, ks.zip xs, rfl, upd_same, ?_⟩
    have sg : Same G1 (upd G1 p (.frz od (.dK (ks.zip xs)))) := same_upd gp
    have nf : (((ks.map keyD).zip ds).all fun p => !isTupD p.1) = true := List.all_eq_true.mpr fun y hy => by
      obtain ⟨k, _, e⟩ := List.mem_map.mp (List.of_mem_zip hy).1
      rw [← e]
      cases k <;> rfl
    have e0 : dVals (.dict ((ks.map keyD).zip ds)) = some (((ks.map keyD).zip ds).map (·.2)) := if_pos nf
    have q' := q
    rw [e0] at q'
    dsimp only at q'
    have R2 : Rel K σ (upd G1 p (.frz od (.dK (ks.zip xs)))) (upd H1 p (.frz od (.dK (ks.zip xs)))) ρ1 := by
      refine ⟨fun b u z => ?_, R1.len, fun i c z => ?_, fun i c z => ?_, R1.apart⟩
      · by_cases y : b = p
        · subst y; rw [upd_same] at z ⊢; exact z
        · rw [upd_ne y] at z ⊢; exact R1.gh b u z
      · obtain ⟨v, hv, r⟩ := R1.fro i c z
        exact ⟨v, hv, rp_same sg r⟩
      · obtain ⟨p', o', hv, hp', gp', ob'⟩ := R1.own i c z
        have ne : p' ≠ p := fun y => by subst y; exact nw ⟨i, c, z, hv⟩
        exact ⟨p', o', hv, (upd_ne ne).trans hp', (upd_ne ne).trans gp', ob_same sg ob'⟩
    have l2 : Lk 0 σ G H ρ σ (upd G1 p (.frz od (.dK (ks.zip xs)))) (upd H1 p (.frz od (.dK (ks.zip xs)))) ρ1 := by
      refine ⟨⟨l1.st.gg.trans sg, fun b u n z => ?_, fun b u n z g t => ?_, fun b z => ?_⟩, l1.sb, fun _ _ => rfl⟩
      · rw [upd_ne (ne_of_none z h0)]; exact l1.st.hh b u n z
      · rw [upd_ne (ne_of_none z h0)]; exact l1.st.fr b u n z g t
      · by_cases y : b = p
        · subst y; exact h0
        · rw [upd_ne y] at z; exact l1.st.dom b z
    have e2 : ((ks.map keyD).zip ds).map (·.2) = ds := snd_zip (α := Unit) (by rw [List.length_map, hl, rps_len ra])
    rw [e2] at q'
    exact q' _ _ _ R2 l2 (wk_vals hl upd_same (rps_same sg ra))
  cases ob with
  | lst _ => exact (show False from q).elim
  | dK hl ra => exact .inl ⟨_, hp, fun _ od => go od _ _ _ hl ra rfl⟩
  | @dT ks xs ds hl ra =>
    cases ks with
    | nil =>
      cases xs with
      | nil =>
        cases ra
        exact .inr ⟨hp, fun od => go od [] [] [] rfl .nil rfl⟩
      | cons _ _ => cases hl
    | cons k ks =>
      cases ra with
      | nil => cases hl
      | cons r rs => exact (show False from q).elim
end
end Dl

set_option Elab.async false
set_option linter.all false
set_option maxRecDepth 100000
set_option maxHeartbeats 4000000
/-! Stars: [*d, ..] over the keys of dicts, f(*t, ..) over a tuple. -/
namespace Dl
open PySem PySem.Spec PyProof.Rows L2 Br
section
variable {K : PySem.W.Frag} {X : Cx} {e e2 : Expr} {es : List Expr} {m : ME} {ma : MA} {mr : MR} {p pos : Pos}
/-- a dict, key by key -/
theorem star_keys {pins : List (Addr × Obj)} {σ : L2.St} {H : Hp} {s : Shared} {a : Addr} {kvs : List (Key × V)} {Ex : Value → Shared → Prop} {Q : List Value → Shared → Prop} (hcalm : X.calm = true) (I : Inv X pins σ H s) (h : Rd H a (.dK kvs) ∨ (kvs = [] ∧ ∃ z, Rd H a (.dT z) ∧ z = []))
    (hQ : ∀ us s', Inv X pins σ H s' → Vals (kvs.map fun kv => kV kv.1) us → Q us s') : PySem.W.StarOf (model X.prog X.w) X.A Ex (.ref a) Q s := by
  have all : kvs.length ≤ sizeLine ∧ (a == sysModules) = false ∧ ∃ vs, KV kvs vs ∧ s.heap.DictOf (mixKind X.prog X.w) a vs := by
    rcases h with h | ⟨rfl, z, h, rfl⟩
    · exact dk_rd I.hok h
    · obtain ⟨hs, dof⟩ := rd0_TK I.hok h
      exact ⟨Nat.zero_le _, hs, [], .nil, dof⟩
  obtain ⟨z, lo, vs, rel, dd⟩ := all
  obtain ⟨ep, hat⟩ := dd.dictAt
  have ek : (vs.map fun p => kV p.1) = kvs.map fun kv => kV kv.1 := by
    have q := congrArg (List.map kV) (KV.keys rel)
    rw [List.map_map, List.map_map] at q
    exact q.symm
  have got : wpAny (model X.prog X.w) X.A (collect (.ref a)) Q Ex s :=
    PySem.W.kdu_collect (PySem.W.kdl_dict (knd := mixKind X.prog X.w) (kvs := vs) (ep := ep) lo) (I.ok.hd hcalm) hat (by have := Paired.length rel; omega) fun h' tk acc hk hacc =>
      hQ acc.toList _ (I.kept (t' := tk) hk) (by
        rw [← ek]
        exact keys_at (by rw [Array.length_toList]; exact hacc.1) fun j v q => hacc.2 j v (by rw [← Array.getElem?_toList]; exact q))
  obtain ⟨ob, _, ho, ex, _⟩ := hat
  unfold PySem.W.StarOf notIterableAtAll
  exact wpAny_bind (wpAny_specialOf (show s.TypeIs (.ref a) "dict" from ⟨ob, ho, ex.1⟩) PySem.F.slot_dict_iter.lookup (wpAny_pure ⟨rfl, got⟩))
def aStarD (m : ME) (ma : MA) : MA := fun ρ k => m ρ fun d ρ1 => match d with
  | .dict ps => (ps.all fun p => !isTupD p.1) = true ∧ ma ρ1 fun ds ρ2 => k (ps.map (·.1) ++ ds) ρ2
  | _ => False
theorem rps_two {G : Hp} : ∀ {vs ws : List V} {ds fs : List D}, RpAll K G vs ds → RpAll K G ws fs → RpAll K G (vs ++ ws) (ds ++ fs)
  | _, _, _, _, .nil, h => h
  | _, _, _, _, .cons r rs, h => .cons r (rps_two rs h)
theorem sa_starD (hK : X.K = K) (hc : X.calm = true) (ha : SE K (fV K) X e m) (hr : SA K X es ma) (hs : starEach (.Starred e p :: es) X.env = (true, eval e X.env) :: starEach es X.env := by rfl) : SA K X (.Starred e p :: es) (aStarD m ma) := by
  subst hK
  constructor
  · intro ρ k k' w
    refine ha.mono ρ _ _ fun d ρ1 h => ?_
    cases d <;> first | exact h.elim | skip
    exact ⟨h.1, hr.mono ρ1 _ _ (fun ds ρ2 => w _ ρ2) h.2⟩
  · refine ⟨fun pos pins s σ H Q I hq => ?_⟩
    obtain ⟨G0, ρ, R, q0⟩ := hq
    refine PySem.W.items_star (thn (ha.pe.run pins s σ H (fun v H1 => ∃ G1 ρ1 d, Rel X.K σ G1 H1 ρ1 ∧ Lk 0 σ G0 H ρ σ G1 H1 ρ1 ∧ Vw X.K G1 H1 v d ∧ (match d with
      | .dict ps => (ps.all fun p => !isTupD p.1) = true ∧ ma ρ1 fun ds ρ2 => ∀ vs G' H', Rel X.K σ G' H' ρ2 → Lk 0 σ G0 H ρ σ G' H' ρ2 → RpAll X.K G' vs (ps.map (·.1) ++ ds) → Q vs H'
      | _ => False)) I ⟨G0, ρ, R, ha.mono ρ _ _ (fun d ρ1 q v G1 H1 R1 l1 r1 => ⟨G1, ρ1, d, R1, l1, r1, q⟩) q0⟩) fun v s1 ⟨x, H1, I1, r1, G1, ρ1, d, R1, l1, vw, q⟩ => ?_) hs
    cases d <;> first | exact q.elim | skip
    rename_i ps
    obtain ⟨flat, q⟩ := q
    have form : ∃ (a : Addr) (kvs : List (Key × V)), x = .ref a ∧ (Rd H1 a (.dK kvs) ∨ (kvs = [] ∧ ∃ z, Rd H1 a (.dT z) ∧ z = [])) ∧ RpAll X.K G1 (kvs.map fun kv => kV kv.1) (ps.map (·.1)) := by
      obtain ⟨a, rfl, ⟨ks, xs, ds, rd, hl, ra, rfl⟩ | ⟨ks, xs, ds, rd, hl, ra, rfl⟩⟩ := vw_dict R1.gh vw
      · have le := rps_len ra
        refine ⟨a, ks.zip xs, rfl, .inl rd, ?_⟩
        rw [show ((ks.map keyD).zip ds).map (·.1) = ks.map keyD from List.map_fst_zip (by simp; omega), zipk hl]
        exact rps_keys ks
      · cases ks with
        | nil => exact ⟨a, [], rfl, .inr ⟨rfl, _, rd, rfl⟩, .nil⟩
        | cons k ks =>
          cases ra with
          | nil => cases hl
          | cons r rs =>
            rename_i v vs d ds
            have h2 : (!isTupD (.tuple .mad (k.map keyD)) && _) = true := flat
            cases h2
    obtain ⟨a, kvs, rfl, hd, rk⟩ := form
    obtain rfl : v = Value.ref a := r1
    refine star_keys hc I1 hd fun us s2 I2 rv => ?_
    exact thn (hr.pa.run pos pins s2 σ H1 _ I2 ⟨G1, ρ1, R1, hr.mono ρ1 _ _ (fun ds ρ2 q vs G2 H2 R2 l2 rs => q _ G2 H2 R2 (l1.trans l2) (rps_two (rps_same l2.st.gg rk) rs)) q⟩) fun ws s3 ⟨vs, H3, I3, r3, q3⟩ => ⟨_ ++ vs, H3, I3, rv.append r3, q3⟩
/-- f(*t, ..) -/
def rStar (m : ME) (mr : MR) : MR := fun ρ k => m ρ fun d ρ1 => match d with
  | .tuple _ ds => mr ρ1 fun as ρ2 => k (ds.map .inr ++ as) ρ2
  | _ => False
theorem arR_two {σ : L2.St} {G : Hp} {ws : List V} {as : List Ar} (h : ArR K σ G ws as) : ∀ {vs : List V} {ds : List D}, RpAll K G vs ds → ArR K σ G (vs ++ ws) (ds.map .inr ++ as)
  | _, _, .nil => h
  | _, _, .cons r rs => .val r (arR_two h rs)
theorem sr_star (hK : X.K = K) (ha : SE K (fE K) X e m) (hr : SR K X es mr) (hs : starEach (.Starred e p :: es) X.env = (true, eval e X.env) :: starEach es X.env := by rfl) : SR K X (.Starred e p :: es) (rStar m mr) := by
  subst hK
  constructor
  · intro ρ k k' w
    refine ha.mono ρ _ _ fun d ρ1 h => ?_
    cases d <;> first | exact h.elim | skip
    exact hr.mono ρ1 _ _ (fun ds ρ2 => w _ ρ2) h
  · refine pa_weak (StX.pa_star ha.pe hr.pa hs) fun σ H Q ⟨G, ρ, R, q⟩ => ⟨G, ρ, R, ha.mono ρ _ _ (fun d ρ1 q v G1 H1 R1 l1 r1 => ?_) q⟩
    cases d <;> first | exact q.elim | skip
    obtain ⟨a, xs, rfl, sq, ra, _⟩ := rp_tup r1
    exact ⟨a, xs, rfl, .inl (sqT_same R1.gh sq), G1, ρ1, R1, hr.mono ρ1 _ _ (fun as ρ2 q vs G2 H2 R2 l2 rs => q _ G2 H2 R2 (l1.trans l2) (arR_two rs (rps_same l2.st.gg ra))) q⟩
end
section
variable {X : Cx} {CX : CXT} {k : Nat} {f : Addr} {fd : FuncData} {ps : List Str} {sp : Sp} {E : XK} {x : Str} {e e2 : Expr} {es : List Expr} {p sp_ pos : Pos} {t : TA}
theorem evalArgs_two {M : Model} {A : Around} {Ex : Value → Shared → Prop} {s : Shared} {g : Value} {y z : Bool × Sem Value} {rest : List (Bool × Sem Value)} {Q : Args → Shared → Prop}
    (h : wpAny M A (spliced (y :: z :: rest)) (fun vs s' => Q ⟨vs, []⟩ s') Ex s) : wpAny M A (evalArgs g true (y :: z :: rest) []) Q Ex s := by
  obtain ⟨b, y⟩ := y
  unfold evalArgs
  cases b
  all_goals
    show wpAny M A (spliced (_ :: z :: rest) >>= _) Q Ex s
    refine wpAny_bind (wpAny_mono h (fun vs s' h' => ?_) fun _ _ x => x)
    refine wpAny_holding ?_
    exact wpAny_bind (wpAny_pure (wpAny_bind (wpAny_pure (wpAny_pure h'))))
theorem pe_callGS (F : FnG X.prog X.w X.K X.mg X.base CX k f fd ps sp) (hG : Bare X.A) (hr : Room k X.A) (hg : Gl X x) (hm : X.mg x = some (.ref f)) (hk : PySem.W.keepIn X.K (.ref f) = true) (hb : Binds X.K fd ps []) (hx : Passes CX X E)
    (ha : PA X (.Starred e sp_ :: e2 :: es) t) (hdb : (x == ("__debug__" : Str)) = false := by decide) (he : starEach (.Starred e sp_ :: e2 :: es) X.env = (true, eval e X.env) :: (false, eval e2 X.env) :: starEach es X.env := by rfl) :
    PE X (.Call (.Name x p) (.Starred e sp_ :: e2 :: es) [] pos) (tCall sp [] E t) := by
  constructor
  intro pins s σ H Q I h
  refine wpAny_Call_Name_kw (ld_glob I hg hm ?_ hdb)
  have run := thn (ha.run pos pins s σ H _ I h) fun us s1 hh => hh
  have h2 : wpAny (model X.prog X.w) X.A (spliced (backTo pos (starEach (.Starred e sp_ :: e2 :: es) X.env))) (fun us s1 => PySem.W.Frag.In X.K s1.heap ∧ wpAny (model X.prog X.w) X.A (call (.ref f) ([] ++ us)) (EP X pins σ Q) X.xe s1) X.xe s :=
    thn (ha.run pos pins s σ H _ I h) fun us s1 hh => by
      obtain ⟨vs, H1, I1, r, q⟩ := hh
      refine ⟨I1.kIn, ?_⟩
      rw [List.append_nil] at q
      have hl : (us ++ []).length = ps.length := by rw [List.append_nil, ← r.length]; exact F.many _ _ _ _ q
      have hbb := hb s1 us I1.kIn hl
      rw [List.append_nil] at hbb
      exact run_g F hG hr hx I1 hbb r q
  rw [he] at h2 ⊢
  exact PySem.W.ks_call rfl (PySem.W.keeps_K hk) (evalArgs_two h2)
end
section
variable {K : PySem.W.Frag} {X : Cx} {a e2 : Expr} {es : List Expr} {mr : MR}
theorem se_callDS {F : Fs} {n k j : Nat} {f : Addr} {fd : FuncData} {ps : List Str} {x : Str} {p sp_ pos : Pos} (Fn : FnD X.prog X.w K X.mg X.base j f fd ps n F) (hK : X.K = K) (hG : Bare X.A) (hr : Room k X.A) (hj : j ≤ k) (hg : Gl X x) (hm : X.mg x = some (.ref f)) (hk : PySem.W.keepIn K (.ref f) = true) (hb : Binds K fd ps []) (ha : SR K X (.Starred a sp_ :: e2 :: es) mr)
    (hdb : (x == ("__debug__" : Str)) = false := by decide) (he : starEach (.Starred a sp_ :: e2 :: es) X.env = (true, eval a X.env) :: (false, eval e2 X.env) :: starEach es X.env := by rfl) : SE K (fE K) X (.Call (.Name x p) (.Starred a sp_ :: e2 :: es) [] pos) (mCall F n mr) := by
  subst hK
  refine ⟨fun ρ k k' w => ha.mono ρ _ _ fun as ρ1 q => ⟨q.1, q.2.1, ?_⟩, pe_weak (pe_callGS (E := fun _ _ _ => False) Fn.ok hG (hr.mono hj) hg hm hk hb pass0 ha.pa hdb he) (t_call ha.mono Fn.mo Fn.ln Fn.le)⟩
  have q := q.2.2
  revert q
  cases cellsOf ρ1 as with
  | none => exact id
  | some cs => exact Fn.mo _ _ _ fun d cs' => w _ _
end
end Dl

set_option Elab.async false
set_option linter.all false
set_option maxRecDepth 100000
set_option maxHeartbeats 4000000
/-! d.pop(k) and d.pop(k, x) as statements, k a text or a number. -/
namespace Dl
open PySem PySem.Spec PyProof.Rows L2 Br
section
variable {K : PySem.W.Frag} {X : Cx}
theorem look_K' {G : Hp} {k : Key} : ∀ {ks : List Key} {xs : List V} {ds : List D}, ks.length = xs.length → RpAll K G xs ds → (∃ v d, valV (ks.zip xs) k = some v ∧ look kOf (.inl k) ((ks.map keyD).zip ds) = some d ∧ Rp K G v d) ∨ (valV (ks.zip xs) k = none ∧ look kOf (.inl k) ((ks.map keyD).zip ds) = none)
  | [], _, _, _, _ => .inr ⟨rfl, rfl⟩
  | q :: ks, _, _, hl, .nil => by cases hl
  | q :: ks, x :: xs, d :: ds, hl, .cons r rs => by
    have ih := look_K' (k := k) (ks := ks) (Nat.succ.inj hl) rs
    have e0 : look kOf (.inl k) (((q :: ks).map keyD).zip (d :: ds)) = if q = k then some d else look kOf (.inl k) ((ks.map keyD).zip ds) := by
      show (if kOf (keyD q) = some (.inl k) then some d else look kOf (.inl k) ((ks.map keyD).zip ds)) = _
      rw [kOf_D]
      by_cases e : q = k
      · rw [if_pos e, if_pos (by rw [e])]
      · rw [if_neg e, if_neg fun z => e (Sum.inl.inj (Option.some.inj z))]
    rw [e0]
    by_cases e : q = k
    · exact .inl ⟨x, d, valV_pos (p := (q, x)) e, if_pos e, r⟩
    · rw [if_neg e, List.zip_cons_cons, valV_neg (p := (q, x)) e]
      exact ih
theorem drop_K {G : Hp} {k : Key} : ∀ {ks : List Key} {xs : List V} {ds : List D}, ks.length = xs.length → RpAll K G xs ds →
    ∃ (qs : List Key) (ys : List V) (es : List D), dropK (ks.zip xs) k = qs.zip ys ∧ qs.length = ys.length ∧ RpAll K G ys es ∧ dropKs ((ks.map keyD).zip ds) (.inl k) = (qs.map keyD).zip es
  | [], xs, ds, hl, r => by
    cases xs with
    | nil => exact ⟨[], [], [], rfl, rfl, .nil, rfl⟩
    | cons _ _ => cases hl
  | q :: ks, _, _, hl, .nil => by cases hl
  | q :: ks, x :: xs, d :: ds, hl, .cons r rs => by
    obtain ⟨qs, ys, es, h1, h2, h3, h4⟩ := drop_K (k := k) (ks := ks) (Nat.succ.inj hl) rs
    unfold dropK at h1
    unfold dropKs at h4
    unfold dropK dropKs
    by_cases z : q = k
    · refine ⟨qs, ys, es, ?_, h2, h3, ?_⟩
      · rw [List.zip_cons_cons, List.filter_cons_of_neg (by simp [z])]
        exact h1
      · rw [List.map_cons, List.zip_cons_cons, List.filter_cons_of_neg (by simp only [kOf_D]; simp [z])]
        exact h4
    · refine ⟨q :: qs, x :: ys, d :: es, ?_, congrArg (· + 1) h2, .cons r h3, ?_⟩
      · rw [List.zip_cons_cons, List.filter_cons_of_pos (by simp [z]), h1]; rfl
      · rw [List.map_cons, List.zip_cons_cons, List.filter_cons_of_pos (by simp only [kOf_D]; simp [z]), h4]; rfl
theorem drop_not {ps : List (D × D)} {k : Key ⊕ List Key} (h : look kOf k ps = none) : dropKs ps k = ps := by
  unfold dropKs
  refine List.filter_eq_self.mpr fun p hp => decide_eq_true fun e => ?_
  induction ps with
  | nil => cases hp
  | cons q ps ih =>
    unfold look at h
    split at h
    · cases h
    · rename_i n
      rcases List.mem_cons.mp hp with rfl | hp
      · exact n e
      · exact ih h hp
/-- what is asked of the values; more: what is told where the key isn't there -/
def rPopF (K : PySem.W.Frag) (x y : V) (more : List V) (H : Hp) (Q : VK) : Prop := ∃ G p ob ps dk k, x = .ref p ∧ Same G H ∧ H p = some ob ∧ G p = none ∧ ObR K G ob (.dict ps) ∧ Rp K G y dk ∧ kOf dk = some (.inl k) ∧ (ps.all fun p => !isTupD p.1) = true ∧ (more = [] → (look kOf (.inl k) ps).isSome = true) ∧
  (∀ v ob', ObR K G ob' (.dict (dropKs ps (.inl k))) → Q v (upd H p ob')) ∧ (dropKs ps (.inl k) = ps → ∀ v, Q v H)
theorem popF_run {pins : List (Addr × Obj)} {σ : L2.St} {H : Hp} {s : Shared} {Q : VK} {x y : V} {u : Value} {p : Addr} {more : List V} {ws : List Value} (I : Inv X pins σ H s) (h : rPopF X.K x y more H Q) (ex : x = .ref p) (ry : RelV y u) (rm : Vals more ws) (hm : more = [] ∨ ∃ z, more = [z]) :
    wpAny (model X.prog X.w) X.A (call (.builtin "dict.pop") (.ref p :: u :: ws)) (EP X pins σ Q) X.xe s := by
  subst ex
  obtain ⟨G, p', ob, ps, dk, k, e, g, hp, gp, ro, rk, ek, flat, there, q, q0⟩ := h
  cases e
  have ed := kOf_inl ek
  subst ed
  have ey : y = kV k := by
    cases k <;> cases rk <;> rfl
  subst ey
  have hw : ws = [] ∨ ∃ x, ws = [x] := by
    rcases hm with rfl | ⟨z, rfl⟩
    · cases rm; exact .inl rfl
    · cases rm with
      | cons _ r => cases r; exact .inr ⟨_, rfl⟩
  cases ro with
  | @dK ks xs ds hl ra =>
    rcases look_K' (k := k) hl ra with ⟨v, d, h1, h2, h3⟩ | ⟨h1, h2⟩
    · obtain ⟨qs, ys, es, e1, e2, e3, e4⟩ := drop_K (k := k) hl ra
      exact d_pop I hp ry h1 hw fun w' s' I' r' => ⟨v, _, I', r', q v _ (by rw [e1, e4]; exact .dK e2 e3)⟩
    · rcases hm with rfl | ⟨z, rfl⟩
      · have := there rfl
        rw [h2] at this
        cases this
      · cases rm with
        | cons r0 r => cases r; exact d_popD I hp ry h1 fun s' I' => ⟨z, H, I', r0, q0 (drop_not h2) z⟩
  | @dT ks xs ds hl ra =>
    have e0 : ks = [] := by
      cases ks with
      | nil => rfl
      | cons k' ks =>
        cases ra with
        | nil => cases hl
        | cons r rs =>
          rename_i v vs d ds
          have h2 : (!isTupD (.tuple .mad (k'.map keyD)) && _) = true := flat
          cases h2
    subst e0
    have x0 : xs = [] := List.eq_nil_of_length_eq_zero hl.symm
    subst x0
    cases ra
    obtain ⟨hd, dd⟩ := rd0_TK I.hok (.inl hp)
    have dd' := dd
    obtain ⟨o, _, _, ho, _⟩ := dd'
    have I2 : Inv X pins σ (upd H p (.dK [])) s := d_write (h' := s.heap) (t' := s.toks) I (by rw [hp]; trivial) ⟨rfl, fun _ _ => rfl⟩ ⟨o, ho⟩ (dk_new (Nat.zero_le _) hd .nil dd)
    rcases hm with rfl | ⟨z, rfl⟩
    · cases there rfl
    · cases rm with
      | cons r0 r => cases r; exact d_popD (kvs := []) I2 upd_same ry rfl fun s' I' => ⟨z, _, I', r0, q z _ (.dK (ks := []) (xs := []) (ds := []) rfl .nil)⟩
def tPopF1 (K : PySem.W.Frag) (td ty : TE) : TE := fun σ H Q => td σ H fun x H1 => (∃ a, x = .ref a ∧ IsD H1 a) ∧ ty σ H1 fun y H2 => rPopF K x y [] H2 Q
def tPopF2 (K : PySem.W.Frag) (td ty tz : TE) : TE := fun σ H Q => td σ H fun x H1 => (∃ a, x = .ref a ∧ IsD H1 a) ∧ ty σ H1 fun y H2 => tz σ H2 fun z H3 => rPopF K x y [z] H3 Q
theorem pe_popF1 {o e : Expr} {apos cpos : Pos} {td ty : TE} (ho : PE X o td) (he : PE X e ty) (m : M1 X o "pop" apos e cpos) : PE X (.Call (.Attribute o "pop" apos) [e] [] cpos) (tPopF1 X.K td ty) := by
  constructor
  intro pins s σ H Q I h
  refine wpAny_Call_method m.base m.few m.line PySem.F.plainAttrs_dict PySem.F.slot_dict_pop PySem.F.type_dict_pop (thn (ho.run pins s σ H _ I h) fun u s1 hh => ?_)
  obtain ⟨x, H1, I1, rx, ⟨p, ex, dd⟩, q1⟩ := hh
  subst ex
  obtain rfl : u = Value.ref p := rx
  obtain ⟨t1, t2, _⟩ := isD_at I1 dd
  refine ⟨t1, t2, ?_⟩
  rw [m.trees]
  refine Calls.callWith_builtin rfl (Calls.evalArgs_plain (Calls.spliced_cons (thn (he.run pins s1 σ H1 _ I1 q1) fun iv s2 hh2 => Calls.spliced_nil ?_)))
  obtain ⟨y, H2, I2, ry, q2⟩ := hh2
  exact popF_run I2 q2 rfl ry .nil (.inl rfl)
theorem pe_popF2 {o e f : Expr} {apos cpos : Pos} {td ty tz : TE} (ho : PE X o td) (he : PE X e ty) (hf : PE X f tz) (m : L2.M2 X o "pop" apos e f cpos) : PE X (.Call (.Attribute o "pop" apos) [e, f] [] cpos) (tPopF2 X.K td ty tz) := by
  constructor
  intro pins s σ H Q I h
  refine wpAny_Call_method m.base m.few m.line PySem.F.plainAttrs_dict PySem.F.slot_dict_pop PySem.F.type_dict_pop (thn (ho.run pins s σ H _ I h) fun u s1 hh => ?_)
  obtain ⟨x, H1, I1, rx, ⟨p, ex, dd⟩, q1⟩ := hh
  subst ex
  obtain rfl : u = Value.ref p := rx
  obtain ⟨t1, t2, _⟩ := isD_at I1 dd
  refine ⟨t1, t2, ?_⟩
  rw [m.trees]
  refine Calls.callWith_builtin rfl (Calls.evalArgs_plain (Calls.spliced_cons (thn (he.run pins s1 σ H1 _ I1 q1) fun iv s2 hh2 => ?_)))
  obtain ⟨y, H2, I2, ry, q2⟩ := hh2
  refine Calls.spliced_cons (thn (hf.run pins s2 σ H2 _ I2 q2) fun fv s3 hh3 => Calls.spliced_nil ?_)
  obtain ⟨z, H3, I3, rz, q3⟩ := hh3
  exact popF_run I3 q3 rfl ry (.cons rz .nil) (.inr ⟨z, rfl⟩)
end
def sDPopF (i : Nat) (mk : ME) (one : Bool) : MS := fun E ρ => mOwn i ρ fun d0 _ => (∃ ps, d0 = .dict ps) ∧ mk ρ fun dk ρ2 => match ρ2[i]? with
  | some (.own (.dict ps)) => match kOf dk with
    | some (.inl k) => (ps.all fun p => !isTupD p.1) = true ∧ (one = true → (look kOf (.inl k) ps).isSome = true) ∧ E.nx (ρ2.set i (.own (.dict (dropKs ps (.inl k)))))
    | _ => False
  | _ => False
section
variable {K : PySem.W.Frag} {X : Cx}
theorem mos_popF {i : Nat} {m : ME} {one : Bool} (h : Mo m) : MoS (sDPopF i m one) := by
  intro ρ E E' w _ _ _
  refine mo_own ρ _ _ fun d0 _ q => ⟨q.1, h ρ _ _ (fun dv ρ2 q => ?_) q.2⟩
  split at q
  · split at q
    · exact ⟨q.1, q.2.1, w _ q.2.2⟩
    · exact q.elim
  · exact q.elim
theorem set_self {ρ : Cs} {i : Nat} {c : Cell} (h : ρ[i]? = some c) : ρ.set i c = ρ := by
  refine List.ext_getElem? fun j => ?_
  by_cases e : i = j
  · subst e
    rw [List.getElem?_set_self (List.getElem?_eq_some_iff.mp h).1, h]
  · rw [List.getElem?_set_ne e]
theorem ss_popF1 {n i : Nat} {o e : Expr} {m : ME} {ap p2 pos : Pos} (hK : X.K = K) (ho : PE X o (tVar i)) (hv : SE K (fE K) X e m) (hm : M1 X o "pop" ap e p2 := by exact ⟨rfl, rfl, rfl, rfl⟩)
    (hsw : swapsWith (.Call (.Attribute o "pop" ap) [e] [] p2) none pos.line X.env = pure false := by rfl) : SS K n X (.Expr (.Call (.Attribute o "pop" ap) [e] [] p2) pos) (sDPopF i m true) := by
  subst hK
  refine ⟨mos_popF hv.mono, ps_weak (ps_expr (pe_popF1 ho hv.pe hm) hsw) fun T σ H ⟨G, ρ, E, R, q, w, _⟩ => ?_⟩
  obtain ⟨x, d0, hx, vx, ⟨ps, rfl⟩, q⟩ := own_there R q
  refine ⟨_, hx, vw_isD R.gh vx, G, ρ, R, hv.mono ρ _ _ (fun dk ρ2 q y G2 H2 R2 l2 ry => ?_) q⟩
  split at q
  · rename_i zs e2
    split at q
    · rename_i kk e3
      obtain ⟨p2, ob, y1, y2, y3, y4⟩ := R2.own i _ e2
      rw [hx] at y1
      cases y1
      refine ⟨G2, p2, ob, zs, dk, kk, rfl, R2.gh, y2, y3, y4, ry, e3, q.1, fun _ => q.2.1 rfl, fun v ob' r => ?_, fun e v => ?_⟩
      · obtain ⟨R3, l3⟩ := Rel.chg (n := n) R2 e2 hx r
        exact w σ G2 _ _ R3 (l2.up.trans l3) q.2.2
      · have z := q.2.2
        rw [e, set_self e2] at z
        exact w σ G2 _ _ R2 l2.up z
    · exact q.elim
  · exact q.elim
theorem ss_popF2 {n i : Nat} {o e : Expr} {m : ME} {ap p2 pos pn : Pos} {jn} (hK : X.K = K) (ho : PE X o (tVar i)) (hv : SE K (fE K) X e m) (hm : L2.M2 X o "pop" ap e (.Constant .none jn pn) p2 := by exact ⟨rfl, rfl, rfl, rfl⟩)
    (hsw : swapsWith (.Call (.Attribute o "pop" ap) [e, .Constant .none jn pn] [] p2) none pos.line X.env = pure false := by rfl) : SS K n X (.Expr (.Call (.Attribute o "pop" ap) [e, .Constant .none jn pn] [] p2) pos) (sDPopF i m false) := by
  subst hK
  refine ⟨mos_popF hv.mono, ps_weak (ps_expr (pe_popF2 ho hv.pe pe_non hm) hsw) fun T σ H ⟨G, ρ, E, R, q, w, _⟩ => ?_⟩
  obtain ⟨x, d0, hx, vx, ⟨ps, rfl⟩, q⟩ := own_there R q
  refine ⟨_, hx, vw_isD R.gh vx, G, ρ, R, hv.mono ρ _ _ (fun dk ρ2 q y G2 H2 R2 l2 ry => ?_) q⟩
  split at q
  · rename_i zs e2
    split at q
    · rename_i kk e3
      obtain ⟨p2, ob, y1, y2, y3, y4⟩ := R2.own i _ e2
      rw [hx] at y1
      cases y1
      refine ⟨G2, p2, ob, zs, dk, kk, rfl, R2.gh, y2, y3, y4, ry, e3, q.1, (fun z => nomatch z), fun v ob' r => ?_, fun e v => ?_⟩
      · obtain ⟨R3, l3⟩ := Rel.chg (n := n) R2 e2 hx r
        exact w σ G2 _ _ R3 (l2.up.trans l3) q.2.2
      · have z := q.2.2
        rw [e, set_self e2] at z
        exact w σ G2 _ _ R2 l2.up z
    · exact q.elim
  · exact q.elim
end
end Dl

set_option Elab.async false
set_option linter.all false
set_option maxRecDepth 100000
set_option maxHeartbeats 4000000
/-! sorted(d), the keys of a dict, all texts. -/
namespace Dl
open PySem PySem.Spec PyProof.Rows L2 Br
def isStrK (p : D × D) : Bool := match p.1 with
  | .str _ => true
  | _ => false
def oSortedKeys : O1 := fun a k => match a with
  | .dict ps => ps ≠ [] ∧ ps.length < 64 ∧ ps.all isStrK = true ∧ ∀ ds' : List D, ds'.Perm (ps.map (·.1)) → k (.list ds')
  | _ => False
theorem mo_sortedKeys : Mo1 oSortedKeys := fun a k k' w h => by
  cases a <;> first | exact h.elim | exact ⟨h.1, h.2.1, h.2.2.1, fun ds' p => w _ (h.2.2.2 ds' p)⟩
section
variable {K : PySem.W.Frag} {X : Cx} {a : Expr} {ma : ME} {pos : Pos}
theorem keys_strs : ∀ {ks : List Key} {ds : List D}, ks.length = ds.length → ((ks.map keyD).zip ds).all isStrK = true → ∃ zs : List Str, ks = zs.map Sum.inr
  | [], _, _, _ => ⟨[], rfl⟩
  | k :: ks, [], hl, _ => by cases hl
  | k :: ks, d :: ds, hl, h => by
    have h2 : (isStrK (keyD k, d) && ((ks.map keyD).zip ds).all isStrK) = true := h
    rw [Bool.and_eq_true] at h2
    obtain ⟨zs, e⟩ := keys_strs (Nat.succ.inj hl) h2.2
    cases k with
    | inl i => cases h2.1
    | inr z => exact ⟨z :: zs, by rw [e]; rfl⟩
theorem callr_sortedK (hcalm : X.calm = true) : CallR X (.builtin "sorted") (fun xs H Q => ∃ x, xs = [x] ∧ rO1 X.K (pF X.K) oSortedKeys x H Q) := by
  intro pins s σ H xs us Q I r h
  obtain ⟨x, rfl, G, d, g, hx, q⟩ := h
  cases d <;> first | exact q.elim | skip
  rename_i ps
  obtain ⟨ne, few, hs, q⟩ := q
  obtain ⟨a, rfl, ⟨ks, xs, ds, rd, hl, ra, rfl⟩ | ⟨ks, xs, ds, rd, hl, ra, rfl⟩⟩ := vw_dict g hx
  · have le := rps_len ra
    obtain ⟨zs, rfl⟩ := keys_strs (by omega) hs
    have e1 : (((zs.map Sum.inr).zip xs).map (·.1) : List Key) = zs.map Sum.inr := List.map_fst_zip (by omega)
    have e2 : (((zs.map (Sum.inr : Str → Key)).map keyD).zip ds).map (·.1) = zs.map D.str := by
      rw [List.map_fst_zip (by simp at hl ⊢; omega), List.map_map]; rfl
    have lz : zs.length < 64 := by
      rw [List.length_zip, List.length_map, List.length_map] at few
      rw [List.length_map] at hl
      omega
    refine call_sortedD hcalm pins s σ H _ us Q I r ⟨a, _, zs, rfl, rd, e1, lz, fun ys p pm so np => newF g (q (ys.map D.str) ?_) np (.lst (rps_strs ys))⟩
    rw [e2]
    exact pm.map _
  · cases ks with
    | nil => exact absurd rfl ne
    | cons k ks =>
      cases ra with
      | nil => cases hl
      | cons r rs =>
        rename_i v vs d ds
        have h2 : (isStrK (.tuple .mad (k.map keyD), d) && _) = true := hs
        cases h2
theorem se_sorted_keys {p : Pos} (hK : X.K = K) (hc : X.calm = true) (hg : Gl X "sorted") (hm : X.mg "sorted" = none) (ha : SE K (fV K) X a ma) (hs : starEach [a] X.env = [(false, eval a X.env)] := by rfl) (hpl : (backTo pos (starEach [] X.env)).any (·.1) = false := by rfl) :
    SE K (fF K) X (.Call (.Name "sorted" p) [a] [] pos) (mUn oSortedKeys ma) := by
  subst hK
  exact se_b1 (id := "sorted") (callr_sortedK hc) (fun y H Q h => ⟨y, rfl, h⟩) mo_sortedKeys embF hg hm (by decide +kernel) ha hs (by decide) (by decide) hpl
end
end Dl

set_option Elab.async false
set_option linter.all false
set_option maxRecDepth 100000
set_option maxHeartbeats 4000000
/-! Walks along a text. -/
namespace Dl
open PySem PySem.Spec PyProof.Rows L2 Br
section
variable {K : PySem.W.Frag} {X : Cx} {e : Expr} {m : ME}
def dStr : D → Option (List D)
  | .str z => some (z.cps.toList.map fun c => .str ⟨#[c]⟩)
  | _ => none
theorem si_str {tg : Expr} (h : SE K (fE K) X e m) (hK : X.K = K) : SI K X tg e (mItems dStr m) := by
  refine ⟨mo_items h.mono, pi_weak (pi_str h.pe) fun σ H Q ⟨G, ρ, R, q⟩ => ⟨G, ρ, R, h.mono ρ _ _ (fun d ρ1 q v G1 H1 R1 l r => ?_) q⟩⟩
  subst hK
  cases d <;> first | exact q.elim | skip
  cases r
  refine ⟨_, rfl, q _ G1 H1 R1 l fun G2 H2 g gh => ?_⟩
  rename_i z
  have W := walk_str (z := z)
  have ln : (z.cps.toList.map fun c => D.str ⟨#[c]⟩).length = z.cps.size := by rw [List.length_map, Array.length_toList]
  refine ⟨fun i hi => W.goes i H2 (by omega) trivial, ln ▸ W.stops H2 trivial, fun i x H3 hi y => ?_⟩
  obtain ⟨rfl, c, hc, rfl⟩ := W.yields i H2 x H3 (by omega) trivial y
  refine ⟨G2, .str ⟨#[c]⟩, gh, .refl, ?_, .str _⟩
  rw [List.getElem?_map, Array.getElem?_toList, hc]; rfl
end
end Dl

set_option Elab.async false
set_option linter.all false
set_option maxRecDepth 100000
set_option maxHeartbeats 4000000
/-! Sets of tuples of ints and texts, few of them. -/
namespace Sn
open PySem PySem.Spec PyProof.Rows L2
/-- a tuple that lies at b and has the parts k -/
abbrev Tu (P : Program) (w : World) (h : Heap) (k : List Key) (b : Addr) : Prop := IsTupleKey (mixKind P w) h k b
abbrev hsh (P : Program) (w : World) (k : List Key) : Int := tupleKeyHash (mixKind P w) k
/-- an int or a text -/
def Lf (v : Value) : Prop := (∃ i t, v = .int i t) ∨ ∃ x t, v = .str x t
section
variable {P : Program} {w : World} {A : Around} {E : Value → Shared → Prop} {s : Shared}
theorem lf_all {k : List Key} {vs : List Value} (h : ItemsAre (mixKind P w) k vs) : ∀ v ∈ vs, Lf v := by
  induction h with
  | nil => exact fun _ z => nomatch z
  | cons h1 _ ih =>
    intro v m
    rcases List.mem_cons.mp m with rfl | m
    · rcases keyIs_shape h1 with ⟨i, t, _, e⟩ | ⟨x, t, _, e⟩
      · exact .inl ⟨i, t, e⟩
      · exact .inr ⟨x, t, e⟩
    · exact ih v m
theorem lf_cls {n : Nat} {v : Value} (h : Lf v) : ofAClassStatement n v = pure false := by
  rcases h with ⟨i, t, rfl⟩ | ⟨x, t, rfl⟩ <;> cases n <;> rfl
theorem lf_val {n : Nat} {v : Value} (h : Lf v) : ∃ b, hashByValue n v = pure b := by
  rcases h with ⟨i, t, rfl⟩ | ⟨x, t, rfl⟩ <;> cases n <;> exact ⟨_, rfl⟩
theorem tu_cls {k : List Key} {b : Addr} {Q : Bool → Shared → Prop} (hk : Tu P w s.heap k b) (q : Q false s) : wpAny (model P w) A (ofAClassStatement 8 (.ref b)) Q E s := by
  have ty := hk.typeIs
  obtain ⟨o, items, n, ho, _, hd, hi⟩ := hk
  have tt : (("tuple" : String) == "tuple") = true := by decide
  have all := lf_all hi
  unfold ofAClassStatement
  refine wpAny_bind (wpAny_typeOf ty ?_)
  simp only [tt, if_true, Bool.not_true, Bool.false_eq_true, if_false, pure_bind]
  refine wpAny_bind (wpAny_seqItems ho hd (wpAny_bind ?_))
  rw [← Array.forIn_toList]
  refine wpAny_forIn_list _ (fun vs r s' => (r.1 = none ∧ s' = s) ∧ ∀ v ∈ vs, Lf v) _ (fun v vs r s' hr => ?_) (fun r s' hr => ?_) _ _ ⟨⟨rfl, rfl⟩, all⟩
  · rw [lf_cls (hr.2 v List.mem_cons_self)]
    exact wpAny_bind (wpAny_pure (wpAny_pure ⟨⟨rfl, hr.1.2⟩, fun u m => hr.2 u (List.mem_cons_of_mem _ m)⟩))
  · obtain ⟨r1, r2⟩ := r
    obtain ⟨⟨hr, rfl⟩, _⟩ := hr
    cases hr
    exact wpAny_pure q
theorem tu_val {k : List Key} {b : Addr} {Q : Bool → Shared → Prop} (hk : Tu P w s.heap k b) (q : ∀ v, Q v s) : wpAny (model P w) A (hashByValue 8 (.ref b)) Q E s := by
  have ty := hk.typeIs
  obtain ⟨o, items, n, ho, _, hd, hi⟩ := hk
  have all := lf_all hi
  unfold hashByValue
  refine wpAny_bind (wpAny_specialOf ty F.slot_tuple_hash.lookup ?_)
  refine wpAny_bind (wpAny_seqItems ho hd (wpAny_bind ?_))
  rw [Option.getD_some, ← Array.forIn_toList]
  refine wpAny_forIn_list _ (fun vs r s' => (r.1 = none ∧ s' = s) ∧ ∀ v ∈ vs, Lf v) _ (fun v vs r s' hr => ?_) (fun r s' hr => ?_) _ _ ⟨⟨rfl, rfl⟩, all⟩
  · obtain ⟨c, e⟩ := lf_val (n := 7) (hr.2 v List.mem_cons_self)
    rw [e]
    refine wpAny_bind (wpAny_pure ?_)
    obtain ⟨⟨_, rfl⟩, h2⟩ := hr
    cases c with
    | false => exact wpAny_pure (wpAny_pure (q false))
    | true => exact wpAny_pure ⟨⟨rfl, rfl⟩, fun u m => h2 u (List.mem_cons_of_mem _ m)⟩
  · obtain ⟨r1, r2⟩ := r
    obtain ⟨⟨hr, rfl⟩, _⟩ := hr
    cases hr
    exact wpAny_pure (q true)
/-- a search among such tuples shows nothing -/
theorem tu_seen {k : List Key} {b : Addr} {Q : Bool → Shared → Prop} (hk : Tu P w s.heap k b) {ys : List Value} (hy : ∀ y ∈ ys, ∃ k' c, y = Value.ref c ∧ Tu P w s.heap k' c) (q : Q false s) : wpAny (model P w) A (searchCouldBeSeen (.ref b) ys) Q E s := by
  unfold searchCouldBeSeen
  refine wpAny_bind (wpAny_forIn_list _ (fun vs r s' => (r.1 = none ∧ s' = s) ∧ ∀ y ∈ vs, ∃ k' c, y = Value.ref c ∧ Tu P w s.heap k' c) _ (fun v vs r s' hr => ?_) (fun r s' hr => ?_) _ _ ⟨⟨rfl, rfl⟩, hy⟩)
  · obtain ⟨⟨_, rfl⟩, h2⟩ := hr
    obtain ⟨k', c, rfl, hc⟩ := h2 v List.mem_cons_self
    have more : ∀ y ∈ vs, ∃ k' c, y = Value.ref c ∧ Tu P w s'.heap k' c := fun u m => h2 u (List.mem_cons_of_mem _ m)
    dsimp only
    refine wpAny_ite ?_
    split
    · exact wpAny_pure ⟨⟨rfl, rfl⟩, more⟩
    · refine wpAny_bind (wpAny_eqIsQuiet_tuple hk ?_)
      simp only [Bool.not_true, Bool.false_eq_true, if_false, pure_bind]
      refine wpAny_bind (wpAny_eqIsQuiet_tuple hc ?_)
      simp only [Bool.not_true, Bool.false_eq_true, if_false, pure_bind]
      refine wpAny_bind (tu_cls hk ?_)
      simp only [Bool.false_eq_true, if_false, pure_bind]
      refine wpAny_bind (tu_cls hc ?_)
      simp only [Bool.false_eq_true, if_false, pure_bind]
      exact wpAny_pure ⟨⟨rfl, rfl⟩, more⟩
  · obtain ⟨r1, r2⟩ := r
    obtain ⟨⟨hr, rfl⟩, _⟩ := hr
    cases hr
    exact wpAny_pure q
/-! ### the table -/
abbrev rw1 (P : Program) (w : World) (p : Addr × List Key) : Int × Value := (hsh P w p.2, .ref p.1)
abbrev hss (P : Program) (w : World) (L : List (Addr × List Key)) : List Int := L.map fun p => hsh P w p.2
structure Tr (P : Program) (w : World) (h : Heap) (a : Addr) (L : List (Addr × List Key)) (es : Array (Int × Value)) (ep : Nat) (t : SetTable) : Prop where
  ob : ∃ o, h.get? a = some o ∧ o.ExactSet ∧ o.data = .set es ep t
  ro : es.toList = L.map (rw1 P w)
  tb : TabOk t (hss P w L)
  nd : (L.map (·.2)).Nodup
  tu : ∀ p ∈ L, Tu P w h p.2 p.1
  ld : w.params.followText "set-order" = true ∨ t.led = true
  rm : L.length * 5 < t.mask * 3
  fw : L.length < 18
variable {a : Addr} {L : List (Addr × List Key)} {es : Array (Int × Value)} {ep : Nat} {t : SetTable}
theorem Tr.sz (S : Tr P w s.heap a L es ep t) : es.size = L.length := by
  have := congrArg List.length S.ro
  rwa [Array.length_toList, List.length_map] at this
theorem Tr.pl (S : Tr P w s.heap a L es ep t) : t.place.toList.length = L.length := by
  have := S.tb.sz
  rwa [List.length_map, ← Array.length_toList] at this
theorem Tr.ft (S : Tr P w s.heap a L es ep t) : t.fits es.size = true := by
  have h1 := S.pl
  have h2 := S.sz
  have h3 := S.rm
  rw [Array.length_toList] at h1
  unfold SetTable.fits SetTable.fill
  rw [S.tb.dm, Bool.and_eq_true, beq_iff_eq, decide_eq_true_eq]
  show t.place.size = es.size ∧ t.place.size + 0 ≤ t.mask
  omega
theorem Tr.at_ (S : Tr P w s.heap a L es ep t) {i : Nat} {p : Addr × List Key} (h : L[i]? = some p) : es[i]? = some (rw1 P w p) := by
  rw [← Array.getElem?_toList, S.ro, List.getElem?_map, h]; rfl
/-- the place of a probe -/
abbrev pr (m : Nat) (h : Int) (c : Nat) : SetTable.Probe := nth m (runAt m (SetTable.bits h % (m + 1)) (SetTable.bits h)) c
theorem pr_on (m : Nat) (h : Int) (c q : Nat) : nth m (pr m h c) q = pr m h (c + q) := (nth_add m c _ q).symm
theorem pr_dm (m : Nat) : ∀ (n : Nat) (p : SetTable.Probe), p.dummy = none → (nth m p n).dummy = none
  | 0, _, h => h
  | n + 1, p, h => pr_dm m n (adv m p) (by unfold adv; split <;> exact h)
theorem tr_find (S : Tr P w s.heap a L es ep t) {x : Addr} {k : List Key} (hx : Tu P w s.heap k x) (hu : A.units < cLine) {K : Nat} (K0 : K < 10 * SetTable.turns t.mask)
    (K1 : way t.mask (hsh P w k) K ∉ t.place.toList) (K2 : ∀ c, c < K → way t.mask (hsh P w k) c ∈ t.place.toList) {Q : SetFound → Shared → Prop}
    (yes : k ∈ L.map (·.2) → Q (.there none) s) (no : k ∉ L.map (·.2) → Q (.free (way t.mask (hsh P w k) K) false) s) :
    ∀ (f c : Nat) (st : Option SetTable.Probe), st.getD (t.probeStart (hsh P w k)) = pr t.mask (hsh P w k) c → c ≤ K → K - c < f →
      (∀ (i : Nat) (p : Addr × List Key), L[i]? = some p → p.2 = k → ∃ c', (c ≤ c' ∧ c' < K) ∧ t.place.toList[i]? = some (way t.mask (hsh P w k) c')) → wpAny (model P w) A (setSearchFrom a (.ref x) (hsh P w k) true f st) Q E s
  | 0, c, st, _, _, hf, _ => absurd hf (Nat.not_lt_zero _)
  | f + 1, c, st, hst, hc, hf, re => by
    obtain ⟨o, oa, ox, od⟩ := S.ob
    have fit := S.ft
    have ngw : t.gaveWay = false := by unfold SetTable.gaveWay; rw [mask_odd S.tb.mok]; rfl
    have e1 : ∀ q, (nth t.mask (pr t.mask (hsh P w k) c) q).j = way t.mask (hsh P w k) (c + q) := fun q => congrArg SetTable.Probe.j (pr_on _ _ _ _)
    have eK : c + (K - c) = K := by omega
    have hat : ∀ (i : Nat) (p : Addr × List Key), L[i]? = some p → (es[i]?.map (·.1)).getD 0 = hsh P w p.2 := fun i p hp => by rw [S.at_ hp]; rfl
    rw [setSearchFrom_succ]
    refine wpAny_bind (wpAny_setState_of oa od fit ?_)
    dsimp only
    rw [ngw]
    simp only [Bool.false_eq_true, if_false, pure_bind]
    rcases go_spec t S.tb.ris S.tb.dm (fun i => (es[i]?.map (·.1)).getD 0) (hsh P w k) (10 * SetTable.turns t.mask) (K - c) (pr t.mask (hsh P w k) c) (pr_dm _ _ _ rfl) (by omega)
      (fun q hq => by rw [e1]; exact K2 _ (by omega)) (by rw [e1, eK]; exact K1) with ⟨q, i, hq, hi, hh, hno, hp⟩ | ⟨hno, hp⟩
    · have hp : t.probe (fun i => (es[i]?.map (·.1)).getD 0) (hsh P w k) (st.getD (t.probeStart (hsh P w k))) = some (.candidate (way t.mask (hsh P w k) (c + q)) i (pr t.mask (hsh P w k) (c + (q + 1)))) := by
        rw [hst, ← e1, ← pr_on]; exact hp
      rw [hp]
      dsimp only
      rw [e1] at hi
      have il : i < L.length := by rw [← S.pl]; exact (List.getElem?_eq_some_iff.mp hi).1
      obtain ⟨p, ep'⟩ : ∃ p, L[i]? = some p := ⟨_, List.getElem?_eq_getElem il⟩
      have pm := List.mem_of_getElem? ep'
      have ptu := S.tu p pm
      have rest : wpAny (model P w) A (searchRest a (.ref x) (hsh P w k) true f es t (way t.mask (hsh P w k) (c + q)) i (pr t.mask (hsh P w k) (c + (q + 1)))) Q E s := by
        unfold searchRest
        rw [S.at_ ep']
        refine wpAny_bind (wpAny_holding (wpAny_eqBool_tuple hu ptu hx (wpAny_bind (wpAny_setState_of oa od fit ?_))))
        dsimp only
        by_cases kk : p.2 = k
        · rw [decide_eq_true kk]
          exact wpAny_pure (yes (List.mem_map.mpr ⟨p, pm, kk⟩))
        · have live : t.slot (way t.mask (hsh P w k) (c + q)) = .live i := slot_live S.tb.ris hi
          rw [decide_eq_false kk]
          simp only [Bool.and_false, Bool.false_eq_true, if_false, pure_bind, sameMem, if_true, live, S.at_ ep']
          refine wpAny_bind (wpAny_isSame_ref_self ?_)
          simp only [if_true]
          refine (tr_find S hx hu K0 K1 K2 yes no f (c + (q + 1)) _ rfl (by omega) (by omega) fun i0 p0 h0 k0 => ?_)
          obtain ⟨c', ⟨a1, a2⟩, a3⟩ := re i0 p0 h0 k0
          refine ⟨c', ⟨Nat.le_of_not_lt fun z => ?_, a2⟩, a3⟩
          by_cases y : c' = c + q
          · subst y
            have s0 := slot_live S.tb.ris a3
            rw [live] at s0
            injection s0 with s0
            subst s0
            rw [ep'] at h0
            cases h0
            exact kk k0
          · exact hno (c' - c) i0 (by omega) (by rw [e1, show c + (c' - c) = c' by omega]; exact a3) ((hat i0 p0 h0).trans (by rw [k0]))
      cases hl : t.led with
      | true => simpa only [Bool.not_true, Bool.false_eq_true, if_false, pure_bind] using rest
      | false =>
        simp only [Bool.not_false, if_true]
        refine wpAny_bind (tu_seen hx (fun y hy => ?_) ?_)
        · obtain ⟨e0, m0, rfl⟩ := List.mem_map.mp hy
          have m1 : e0 ∈ es.toList := by
            have : e0 ∈ es ∧ e0.1 = hsh P w k := by simpa using m0
            exact Array.mem_toList_iff.mpr this.1
          rw [S.ro] at m1
          obtain ⟨p2, h2, rfl⟩ := List.mem_map.mp m1
          exact ⟨p2.2, p2.1, rfl, S.tu p2 h2⟩
        · simp only [Bool.false_eq_true, if_false]
          exact rest
    · have hp : t.probe (fun i => (es[i]?.map (·.1)).getD 0) (hsh P w k) (st.getD (t.probeStart (hsh P w k))) = some (.empty (way t.mask (hsh P w k) K) none) := by
        have := e1 (K - c)
        rw [eK] at this
        rw [hst, ← this]; exact hp
      rw [hp]
      refine wpAny_pure (no fun m => ?_)
      obtain ⟨p0, h0, k0⟩ := List.mem_map.mp m
      obtain ⟨i0, l0, e0⟩ := List.getElem_of_mem h0
      have h00 : L[i0]? = some p0 := by rw [List.getElem?_eq_getElem l0, e0]
      obtain ⟨c', ⟨a1, a2⟩, a3⟩ := re i0 p0 h00 k0
      exact hno (c' - c) i0 (by omega) (by rw [e1, show c + (c' - c) = c' by omega]; exact a3) ((hat i0 p0 h00).trans (by rw [k0]))
/-- the tuples stay when the set alone changes -/
theorem tu_but {h h' : Heap} {k : List Key} {a b : Addr} {o : Obj} {es : Array (Int × Value)} {ep : Nat} {t : SetTable} (z : Tu P w h k b) (oa : h.get? a = some o) (od : o.data = .set es ep t) (sb : Heap.SameBut a h h') : Tu P w h' k b := by
  obtain ⟨o', its, n, e, c, d, i⟩ := z
  refine ⟨o', its, n, (sb.2 b fun q => ?_).trans e, c, d, i⟩
  subst q
  rw [oa] at e
  cases e
  rw [od] at d
  cases d
theorem range_all {α : Type} : ∀ L : List α, (List.range L.length).filterMap (fun i => L[i]?) = L
  | [] => rfl
  | x :: L => by
    rw [List.length_cons, List.range_succ_eq_map]
    show x :: List.filterMap (fun i => (x :: L)[i]?) (List.map Nat.succ (List.range L.length)) = x :: L
    rw [List.filterMap_map]
    exact congrArg (x :: ·) (range_all L)
theorem fm_congr {α β : Type} {f g : α → Option β} : ∀ {l : List α}, (∀ x ∈ l, f x = g x) → l.filterMap f = l.filterMap g
  | [], _ => rfl
  | x :: l, h => by
    have ih := fm_congr (l := l) fun y m => h y (List.mem_cons_of_mem _ m)
    rw [List.filterMap_cons, List.filterMap_cons, h x List.mem_cons_self, ih]
theorem rows_order {L : List (Addr × List Key)} {es : Array (Int × Value)} {order : Array Nat} (ro : es.toList = L.map (rw1 P w)) (pm : order.toList.Perm (List.range L.length)) :
    ∃ L2 : List (Addr × List Key), (order.filterMap (es[·]?)).toList = L2.map (rw1 P w) ∧ L2.Perm L ∧ hss P w L2 = order.toList.map fun i => (es.map (·.1)).getD i 0 := by
  have at_ : ∀ i : Nat, es[i]? = (L[i]?).map (rw1 P w) := fun i => by rw [← Array.getElem?_toList, ro, List.getElem?_map]
  refine ⟨order.toList.filterMap fun i => L[i]?, ?_, ?_, ?_⟩
  · rw [Array.toList_filterMap, List.map_filterMap]
    exact congrArg (fun f => List.filterMap f order.toList) (funext at_)
  · have := pm.filterMap fun i => L[i]?
    rwa [range_all] at this
  · show (order.toList.filterMap fun i => L[i]?).map (fun p => hsh P w p.2) = _
    rw [List.map_filterMap, ← List.filterMap_eq_map]
    refine fm_congr fun i hi => ?_
    have il : i < L.length := List.mem_range.mp (pm.mem_iff.mp hi)
    have e2 : (es.map (·.1))[i]? = some (hsh P w (L[i]).2) := by rw [Array.getElem?_map, at_, List.getElem?_eq_getElem il]; rfl
    show (L[i]?).map _ = some ((es.map (·.1)).getD i 0)
    rw [List.getElem?_eq_getElem il, Array.getD_eq_getD_getElem?, e2]; rfl
theorem tr_relay {o : Obj} (oa : s.heap.get? a = some o) (ox : o.ExactSet) (od : o.data = .set es ep t) (ro : es.toList = L.map (rw1 P w)) (tb : TabOk t (hss P w L)) (nd : (L.map (·.2)).Nodup) (tu : ∀ p ∈ L, Tu P w s.heap p.2 p.1)
    (ld : w.params.followText "set-order" = true ∨ t.led = true) (l5 : L.length = 5) (tm : t.mask = 7) {Q : Unit → Shared → Prop}
    (q : ∀ h' L' es' ep' t', Heap.SameBut a s.heap h' → Tr P w h' a L' es' ep' t' → L'.Perm L → Q () { s with heap := h' }) : wpAny (model P w) A (setRelay a (SetTable.grown 5)) Q E s := by
  have sz : es.size = 5 := by
    have := congrArg List.length ro
    rwa [Array.length_toList, List.length_map, l5] at this
  have psz : t.place.size = 5 := by
    have := tb.sz
    rwa [List.length_map, l5] at this
  have fit : t.fits es.size = true := by
    unfold SetTable.fits SetTable.fill
    rw [tb.dm, Bool.and_eq_true, beq_iff_eq, decide_eq_true_eq]
    show t.place.size = es.size ∧ t.place.size + 0 ≤ t.mask
    omega
  obtain ⟨t', order, e, pm, T, em, el, _, _⟩ := relaid_ok t (hs := es.map (·.1)) (wanted := SetTable.grown 5) (M := 31) (by rw [size_20]) (.inr (.inl rfl)) (by rw [Array.size_map, sz]; decide)
  rw [Array.size_map, sz, ← l5] at pm
  obtain ⟨L2, r1, r2, r3⟩ := rows_order ro pm
  rw [← r3] at T
  have sz2 : (order.filterMap (es[·]?)).size = es.size := by
    have := congrArg List.length r1
    rw [Array.length_toList, List.length_map, r2.length_eq, l5] at this
    rw [this, sz]
  rw [setRelay_eq]
  refine wpAny_bind (wpAny_setState_of oa od fit ?_)
  dsimp only
  rw [if_neg (by rw [size_20, sizeLine_eq]; decide)]
  rw [e]
  dsimp only
  rw [if_neg (by rw [sz2]; simp)]
  simp only [pure_bind]
  refine wpAny_storeSet_of oa od ?_ (by rw [sz2, sz, sizeLine_eq]; decide)
  have sb : Heap.SameBut a s.heap (s.heap.update a (Obj.putSet (order.filterMap (es[·]?)) t')) := Heap.SameBut.update ..
  refine q _ L2 _ (ep + 1) t' sb ⟨⟨_, store_at oa od, ⟨ox.1, ox.2.1, ox.2.2⟩, rfl⟩, r1, T, ?_, fun p m => tu_but (tu p (r2.mem_iff.mp m)) oa od sb, by rw [el]; exact ld, ?_, ?_⟩ r2
  · exact (r2.map (·.2)).nodup_iff.mpr nd
  · rw [r2.length_eq, l5, em]; decide
  · rw [r2.length_eq, l5]; decide
theorem tab_plain {t : SetTable} {hs : List Int} (T : TabOk t hs) (b : Bool) : TabOk { t with plain := b } hs := ⟨T.ris, T.dm, T.sz, T.mok, T.bd, T.reach⟩
/-- a tuple is added -/
theorem tr_add (S : Tr P w s.heap a L es ep t) {x : Addr} {k : List Key} (hx : Tu P w s.heap k x) (hu : A.units < cLine) (few : L.length + 1 < 18) {Q : Bool → Shared → Prop}
    (q : ∀ b h' L' es' ep' t', Heap.SameBut a s.heap h' → Tr P w h' a L' es' ep' t' → ((k ∈ L.map (·.2) ∧ L' = L) ∨ (k ∉ L.map (·.2) ∧ L'.Perm ((x, k) :: L))) → Q b { s with heap := h' }) :
    wpAny (model P w) A (setAddHashed a (.ref x) (hsh P w k)) Q E s := by
  obtain ⟨o, oa, ox, od⟩ := S.ob
  have fit := S.ft
  have sz := S.sz
  have pl := S.pl
  have rm := S.rm
  have bs : byScan (.ref x) es = false := by simp [byScan, Value.scannable]
  obtain ⟨K, K0, K1, K2⟩ := S.tb.first (by rw [List.length_map]; omega) (hsh P w k)
  have big : K < 100000 := by
    have : 10 * SetTable.turns t.mask ≤ 1420 := by
      unfold SetTable.turns
      rcases S.tb.mok with e | e | e <;> omega
    omega
  unfold setAddHashed
  refine wpAny_holding ?_
  rw [show (100000 : Nat) = 99999 + 1 from rfl, setAddHashedIn_succ]
  refine wpAny_bind (wpAny_setState_of oa od fit ?_)
  dsimp only
  rw [bs]
  simp only [Bool.false_eq_true, if_false, pure_bind]
  refine wpAny_bind ?_
  unfold setSearch
  refine tr_find S hx hu K0 K1 K2 (fun m => ?_) (fun nm => ?_) 100000 0 none rfl (Nat.zero_le _) (by omega) fun i p hp kp => ?_
  · exact wpAny_pure (q false s.heap L es ep t (Heap.SameBut.refl a s.heap) S (.inl ⟨m, rfl⟩))
  · dsimp only
    refine wpAny_bind (wpAny_setState_of oa od fit ?_)
    dsimp only
    obtain ⟨q1, q2, q3, q4, q5, q6, _, _, q9⟩ := S.tb.put K1 K2
    generalize hpt : t.put (way t.mask (hsh P w k) K) = pt at q1 q3 q4 q5 q6 q9 ⊢
    obtain ⟨t1, p⟩ := pt
    dsimp only at q1 q3 q4 q5 q6 q9 ⊢
    subst q1
    generalize SetTable.below t.place (way t.mask (hsh P w k) K) = p at q2 q3 ⊢
    have pm : (L.take p ++ (x, k) :: L.drop p).Perm ((x, k) :: L) := by
      have := List.perm_middle (a := (x, k)) (l₁ := L.take p) (l₂ := L.drop p)
      rwa [List.take_append_drop] at this
    have ins : (SetTable.insertAt es p (hsh P w k, Value.ref x)).toList = (L.take p ++ (x, k) :: L.drop p).map (rw1 P w) := by
      rw [SetTable.toList_insertAt, S.ro, List.map_append, List.map_cons, List.map_take, List.map_drop]
    have hh : (hss P w L).take p ++ hsh P w k :: (hss P w L).drop p = hss P w (L.take p ++ (x, k) :: L.drop p) := by
      unfold hss
      rw [List.map_append, List.map_cons, List.map_take, List.map_drop]
    rw [hh] at q3
    have ln : (L.take p ++ (x, k) :: L.drop p).length = L.length + 1 := pm.length_eq
    have nd1 : ((L.take p ++ (x, k) :: L.drop p).map (·.2)).Nodup := (pm.map (·.2)).nodup_iff.mpr (List.nodup_cons.mpr ⟨nm, S.nd⟩)
    generalize L.take p ++ (x, k) :: L.drop p = L1 at pm ins q3 ln nd1
    generalize SetTable.insertAt es p (hsh P w k, Value.ref x) = es1 at ins ⊢
    have sz1 : es1.size = L.length + 1 := by
      have := congrArg List.length ins
      rwa [Array.length_toList, List.length_map, ln] at this
    -- whatever is known of how it hashes
    have go : ∀ b : Bool, wpAny (model P w) A (do
        storeSet a es1 (if b = true then t1 else { t1 with plain := false })
        if (!false && (if b = true then t1 else { t1 with plain := false }).tooFull) = true then
          setRelay a (SetTable.grown (es.size + 1))
        return true) Q E s := fun b => by
      have T2 : TabOk (if b = true then t1 else { t1 with plain := false }) (hss P w L1) := by
        cases b
        · exact tab_plain q3 false
        · exact q3
      have m2 : (if b = true then t1 else { t1 with plain := false }).mask = t.mask := by cases b <;> exact q4
      have l2 : (if b = true then t1 else { t1 with plain := false }).led = t.led := by cases b <;> exact q5
      have f2 : (if b = true then t1 else { t1 with plain := false }).fill = L.length + 1 := by
        rw [List.length_map] at q9
        cases b <;> exact q9
      generalize (if b = true then t1 else { t1 with plain := false }) = t2 at T2 m2 l2 f2 ⊢
      have ld2 : w.params.followText "set-order" = true ∨ t2.led = true := by rw [l2]; exact S.ld
      refine wpAny_bind (wpAny_storeSet_of oa od ?_ (by rw [sz1, sizeLine_eq]; omega))
      have sb : Heap.SameBut a s.heap (s.heap.update a (Obj.putSet es1 t2)) := Heap.SameBut.update ..
      have oa1 := store_at (es' := es1) (t' := t2) oa od
      generalize s.heap.update a (Obj.putSet es1 t2) = h1 at sb oa1 ⊢
      have tu1 : ∀ p ∈ L1, Tu P w h1 p.2 p.1 := fun p m => by
        rcases List.mem_cons.mp (pm.mem_iff.mp m) with e | m
        · subst e; exact tu_but hx oa od sb
        · exact tu_but (S.tu p m) oa od sb
      have tf : t2.tooFull = decide ((L.length + 1) * 5 ≥ t2.mask * 3) := by
        unfold SetTable.tooFull
        rw [f2]
      rw [tf, sz]
      by_cases full : (L.length + 1) * 5 ≥ t2.mask * 3
      · have c2 : t.mask = 7 ∧ L.length = 4 := by
          rw [m2] at full
          rcases S.tb.mok with e | e | e <;> rw [e] at rm full <;> first | exact ⟨e, by omega⟩ | (exfalso; omega)
        rw [decide_eq_true full]
        simp only [Bool.not_false, Bool.and_self, if_true]
        rw [c2.2]
        refine wpAny_bind (tr_relay (s := { s with heap := h1 }) oa1 ⟨ox.1, ox.2.1, ox.2.2⟩ rfl ins T2 nd1 tu1 ld2 (by rw [ln, c2.2]) (by rw [m2, c2.1]) fun h2 L2 es2 ep2 t3 sb2 S2 p2 => ?_)
        exact wpAny_pure (q true h2 L2 es2 ep2 t3 (sb.trans sb2) S2 (.inr ⟨nm, p2.trans pm⟩))
      · rw [decide_eq_false full]
        simp only [Bool.and_false, Bool.false_eq_true, if_false, pure_bind]
        exact wpAny_pure (q true h1 L1 es1 (ep + 1) t2 sb ⟨⟨_, oa1, ⟨ox.1, ox.2.1, ox.2.2⟩, rfl⟩, ins, T2, nd1, tu1, ld2, by rw [ln]; omega, by rw [ln]; exact few⟩ (.inr ⟨nm, pm⟩))
    cases hp1 : t1.plain with
    | true =>
      simp only [if_true]
      exact wpAny_bind (tu_val hx fun b => go b)
    | false =>
      simp only [Bool.false_eq_true, if_false, pure_bind]
      exact go true
  · have hi : (hss P w L)[i]? = some (hsh P w k) := by rw [List.getElem?_map, hp, ← kp]; rfl
    have il : i < t.place.toList.length := by rw [pl]; exact (List.getElem?_eq_some_iff.mp hp).1
    have hj := List.getElem?_eq_getElem il
    obtain ⟨c, hc, e⟩ := S.tb.before K1 hi hj
    exact ⟨c, ⟨Nat.zero_le _, hc⟩, by rw [hj, e]⟩
end
end Sn

set_option Elab.async false
set_option linter.all false
set_option maxRecDepth 100000
set_option maxHeartbeats 4000000
/-! Sets of tuples of ints and texts as tracked things. -/
namespace Sn
open PySem PySem.Spec PyProof.Rows L2 Br
/-- the set at a, without the tuples themselves -/
def N0 (P : Program) (w : World) (h : Heap) (a : Addr) (L : List (Addr × List Key)) : Prop := ∃ (es : Array (Int × Value)) (ep : Nat) (t : SetTable), (∃ o, h.get? a = some o ∧ o.ExactSet ∧ o.data = .set es ep t) ∧ es.toList = L.map (rw1 P w) ∧ TabOk t (hss P w L) ∧ (L.map (·.2)).Nodup ∧
  (w.params.followText "set-order" = true ∨ t.led = true) ∧ L.length * 5 < t.mask * 3 ∧ L.length < 18
def NsO (P : Program) (w : World) (a : Addr) (L : List (Addr × List Key)) : HO := .ext fun h => N0 P w h a L
theorem Tr.n0 {P : Program} {w : World} {h : Heap} {a : Addr} {L : List (Addr × List Key)} {es : Array (Int × Value)} {ep : Nat} {t : SetTable} (S : Tr P w h a L es ep t) : N0 P w h a L := ⟨es, ep, t, S.ob, S.ro, S.tb, S.nd, S.ld, S.rm, S.fw⟩
theorem N0.tr {P : Program} {w : World} {h : Heap} {a : Addr} {L : List (Addr × List Key)} (N : N0 P w h a L) (tu : ∀ p ∈ L, Tu P w h p.2 p.1) : ∃ es ep t, Tr P w h a L es ep t := by
  obtain ⟨es, ep, t, b1, b2, b3, b4, b5, b6, b7⟩ := N
  exact ⟨es, ep, t, b1, b2, b3, b4, tu, b5, b6, b7⟩
theorem nsO_ok {P : Program} {w : World} {H : Hp} {h : Heap} {a : Addr} {L : List (Addr × List Key)} (N : N0 P w h a L) : ObjOk P w H h a (NsO P w a L) := by
  have ⟨_, _, _, ⟨o, oa, _⟩, _⟩ := N
  refine ⟨N, ⟨o, oa⟩, fun h1 h2 p k => ?_⟩
  obtain ⟨es', ep', t', ⟨o', oa', r'⟩, q'⟩ := p
  exact ⟨es', ep', t', ⟨o', k o' oa', r'⟩, q'⟩
theorem n0_new (P : Program) (w : World) {h : Heap} : N0 P w (h.push { cls := .type "set", dict := none, data := .set #[] 0 (.fresh 0 0 (!w.params.followText "set-order")) }) h.objs.size [] := by
  refine ⟨#[], 0, _, ⟨_, Heap.get?_push_size _ rfl, ⟨rfl, rfl, rfl⟩, rfl⟩, rfl, ⟨List.Pairwise.nil, rfl, rfl, .inl rfl, (fun x z => by cases z), fun i h j z => by cases z⟩, List.nodup_nil, ?_, (by show 0 * 5 < 7 * 3; decide), (by show 0 < 18; decide)⟩
  show _ ∨ (!w.params.followText "set-order") = true
  cases w.params.followText "set-order"
  · exact .inr rfl
  · exact .inl rfl
section
variable {X : Cx} {pins : List (Addr × Obj)} {σ : L2.St} {H : Hp} {s : Shared}
theorem n0_get {a : Addr} {L : List (Addr × List Key)} (I : Inv X pins σ H s) (e : H a = some (NsO X.prog X.w a L)) : N0 X.prog X.w s.heap a L := (I.hok a _ e).1
theorem tu_of {b : Addr} {k : List Key} (I : Inv X pins σ H s) (e : SqT X.K H b (k.map kV)) : Tu X.prog X.w s.heap k b := by
  obtain ⟨its, r, ⟨o, oa, c, n, d⟩, _⟩ := I.tuple e
  exact ⟨o, its.toArray, n, oa, c, d, by simpa using items_are r⟩
/-- a name is added -/
theorem addN_ok {E : Value → Shared → Prop} {D x : Addr} {k : List Key} {L : List (Addr × List Key)} {Q : Value → Shared → Prop} (I : Inv X pins σ H s) (hD : H D = some (NsO X.prog X.w D L)) (tu : ∀ p ∈ L, SqT X.K H p.1 (p.2.map kV)) (hx : SqT X.K H x (k.map kV))
    (few : L.length + 1 < 18) (hu : X.A.units + 64 < cLine) (q : ∀ s' L', Inv X pins σ (upd H D (NsO X.prog X.w D L')) s' → ((k ∈ L.map (·.2) ∧ L' = L) ∨ (k ∉ L.map (·.2) ∧ L'.Perm ((x, k) :: L))) → Q .none s') :
    wpAny (model X.prog X.w) X.A (call (.builtin "set.add") [.ref D, .ref x]) Q E s := by
  obtain ⟨es, ep, t, S⟩ := (n0_get I hD).tr fun p m => tu_of I (tu p m)
  have xt := tu_of I hx
  obtain ⟨o, oa, ox, od⟩ := S.ob
  have ty : s.TypeIs (.ref D) "set" := ⟨o, oa, ox.1⟩
  have u1 : X.A.in1.units < cLine := by
    have : X.A.in1.units ≤ X.A.units + 1 := Nat.le_refl _
    omega
  refine wpAny_call_entry F.slot_set_add ty F.entry_set_add ?_ (F.args_set_add_2 _ _)
  unfold Builtin.«set.add» Builtin.Frozenset.oneOther
  simp only [List.isEmpty_nil, bind_assoc]
  unfold Builtin.Frozenset.addrOf setAdd
  simp only [pure_bind]
  refine wpAny_bind (wpAny_holding (wpAny_bind (wpAny_pyHash_tuple u1 xt ?_)))
  have S2 : Tr X.prog X.w ({ s with toks := s.toks + (k.length + 1) } : Shared).heap D L es ep t := S
  refine tr_add (s := { s with toks := s.toks + (k.length + 1) }) S2 xt u1 few fun b h' L' es' ep' t' sb S3 c => ?_
  have he : ∃ u, h'.get? D = some u := let ⟨o, e, _⟩ := S3.ob; ⟨o, e⟩
  exact wpAny_pure ⟨_, rfl, q _ L' (I.write (e := D) (t' := s.toks + (k.length + 1)) (by rw [hD]; trivial) (.inl rfl) (fun b u hb e => (sb.2 b hb).trans e) he (nsO_ok S3.n0)) c⟩
end
end Sn

set_option Elab.async false
set_option linter.all false
set_option maxRecDepth 100000
set_option maxHeartbeats 4000000
/-! {name for ..} -/
namespace Sn
open PySem PySem.Spec PyProof.Rows L2 Br PpSet
/-- how a set that had L has L' with (c, k) added -/
def Grew (L L' : List (Addr × List Key)) (c : Addr) (k : List Key) : Prop := (k ∈ L.map (·.2) ∧ L' = L) ∨ (k ∉ L.map (·.2) ∧ L'.Perm ((c, k) :: L))
section
variable {X : Cx}
/-- the reading: D the new set -/
def tNc (P : Program) (w : World) (K : PySem.W.Frag) (wi : TI) (g : TG) (tt : TT) (te : TE) (vs : List Nat) : TE := fun σ H Q => wi σ H fun J H1 => ∀ D, H1 D = none → ∃ W : Nat → Nat → Hp → Prop, (∃ m, W 0 m (upd H1 D (NsO P w D []))) ∧ ∀ i m H, W i m H →
  (J.stop i H ∧ Q (.ref D) H) ∨ (J.go i H ∧ ∃ Nx : Hp → Prop, (∀ H', Nx H' → ∃ m', m' < m ∧ W (i + 1) m' H') ∧ ∀ x H', J.yld i H x H' → g x (wipe σ vs) H' fun σ2 H2 => wipe σ2 vs = wipe σ vs ∧ tt σ2 H2 fun b H3 =>
    if b = true then te σ2 H3 fun y H4 => ∃ (c : Addr) (k : List Key) (L : List (Addr × List Key)), y = .ref c ∧ SqT K H4 c (k.map kV) ∧ H4 D = some (NsO P w D L) ∧ (∀ p ∈ L, SqT K H4 p.1 (p.2.map kV)) ∧ L.length + 1 < 18 ∧ ∀ L', Grew L L' c k → Nx (upd H4 D (NsO P w D L')) else Nx H3)
theorem pe_nc {elt tg iter : Expr} {ifs : List Expr} {scope : Scope} {own : List (PySem.Str × Nat)} {pos : Pos} {wi : TI} {g : TG} {tt : TT} {te : TE} (hu : X.A.units + 64 < cLine) (hc : X.calm = true) (hN : X.N.Nodup) (hi : PI X tg iter wi) (ok : BlkOk X.N X.env.scope scope own)
    (hg : ∀ (s : Shared) (H : Hp) (C : Addr) (cl : List (PySem.Str × Addr)) (fp : List Addr), PG (X.blk s H scope (compEnvC scope cl C X.env) fp) tg g) (ht : ∀ (s : Shared) (H : Hp) (C : Addr) (cl : List (PySem.Str × Addr)) (fp : List Addr), PTs (X.blk s H scope (compEnvC scope cl C X.env) fp) ifs tt)
    (he : ∀ (s : Shared) (H : Hp) (C : Addr) (cl : List (PySem.Str × Addr)) (fp : List Addr), PE (X.blk s H scope (compEnvC scope cl C X.env) fp) elt te) (hs : ∀ x, foldedSetIterable iter X.env x = pure x := by intro _; rfl) :
    PE X (.SetComp elt [⟨tg, iter, ifs, 0⟩] scope pos) (tNc X.prog X.w X.K wi g tt te (own.map (·.2))) := by
  refine ⟨fun pins s σ H Q I h => ?_⟩
  rw [eval_SetComp]
  have free : ∀ y ∈ scope.names, y.2 = .free → ∃ c, X.env.cells.lookup y.1 = some c := fun y hy e => (ok.free y hy e).elim (fun k => I.ok.has _ (.inl k)) fun k => I.ok.has _ (.inr k)
  refine wpAny_comprehension_free (use := none) rfl hs (closure_ok free) ok.kind (fun y hy e => (ok.uniq y hy).trans (congrArg some e)) (thn (hi.run pins s σ H _ I h) fun xv s1 hx => thn hx fun itv s2 h2 => ?_)
  obtain ⟨it, fp, tn, J, H2, e, I2, T, st2, f2, q⟩ := h2
  subst e
  refine newSet_ok (newEnv_comp ?_)
  -- the set, at D
  generalize hD : s2.heap.objs.size = D
  have dn : H2 D = none := I2.hok.fresh (Nat.le_of_eq hD)
  obtain ⟨W, ⟨m0, w0⟩, turn⟩ := q D dn
  generalize hs3 : ({ s2 with heap := s2.heap.push { cls := .type "set", dict := none, data := .set #[] 0 (.fresh 0 0 (!X.w.params.followText "set-order")) } } : Shared) = s3
  have I3 : Inv X pins σ (upd H2 D (NsO X.prog X.w D [])) s3 := by
    subst hs3
    refine I2.laid (t' := s2.toks) (fun b o e => Heap.get?_push_of_some _ e) (Nat.le_of_eq hD) ?_
    subst hD
    exact nsO_ok (n0_new X.prog X.w)
  have hp3 : s3.heap = s2.heap.push { cls := .type "set", dict := none, data := .set #[] 0 (.fresh 0 0 (!X.w.params.followText "set-order")) } := by rw [← hs3]
  have lt : ∀ b ∈ fp, b < s2.heap.objs.size := fun b hb => let ⟨o, e, _⟩ := T.obj _ _ st2 b hb; Heap.lt_size e
  have f3 : ∀ b ∈ fp, FpOk X pins (upd H2 D (NsO X.prog X.w D [])) b ∧ b < s3.heap.objs.size := fun b hb => by
    have l := lt b hb
    refine ⟨⟨?_, (f2 b hb).2⟩, by rw [hp3, Heap.size_push]; exact Nat.lt_succ_of_lt l⟩
    rw [upd_ne (fun z => by rw [z, ← hD] at l; exact Nat.lt_irrefl _ l)]
    exact (f2 b hb).1
  have st3 : tn 0 s3.heap := T.keep _ _ _ st2 fun b _ o e => by rw [hp3]; exact Heap.get?_push_of_some _ e
  have I4 := block_start I3 ok hN f3
  have pg := hg s3 (upd H2 D (NsO X.prog X.w D [])) s3.heap.objs.size (cellsFrom (s3.heap.objs.size + 1) scope.names (cloFrom X.env.cells scope.names [])) fp
  have pt := ht s3 (upd H2 D (NsO X.prog X.w D [])) s3.heap.objs.size (cellsFrom (s3.heap.objs.size + 1) scope.names (cloFrom X.env.cells scope.names [])) fp
  have pe := he s3 (upd H2 D (NsO X.prog X.w D [])) s3.heap.objs.size (cellsFrom (s3.heap.objs.size + 1) scope.names (cloFrom X.env.cells scope.names [])) fp
  have nfp : ∀ b ∈ fp, (upd H2 D (NsO X.prog X.w D [])) b = none := fun b hb => (f3 b hb).1.1
  show codeAny _ _ (.compStart (.SetComp elt [⟨tg, iter, ifs, 0⟩] scope pos) 0 (.ref it) (.ref D) (compEnvC scope (cellsFrom (s3.heap.objs.size + 1) scope.names (cloFrom X.env.cells scope.names [])) s3.heap.objs.size X.env)) (compPost (model X.prog X.w) X.A X.xe none (fun v s' => ∃ x H', Inv X pins σ H' s' ∧ RelV x v ∧ Q x H') (.ref D) s3.heap.objs.size) { s3 with heap := pushCells (s3.heap.push { cls := .type "dict", data := .dict #[] }) scope.names }
  generalize hce : compEnvC scope (cellsFrom (s3.heap.objs.size + 1) scope.names (cloFrom X.env.cells scope.names [])) s3.heap.objs.size X.env = ce at I4 pg pt pe ⊢
  have loc : ce.locals = s3.heap.objs.size := by rw [← hce]; rfl
  generalize upd H2 D (NsO X.prog X.w D []) = H3 at I3 I4 pg pt pe w0 nfp f3
  generalize hs4 : ({ s3 with heap := pushCells (s3.heap.push { cls := .type "dict", data := .dict #[] }) scope.names } : Shared) = s4 at I4 ⊢
  have st4 : tn 0 s4.heap := T.keep _ _ _ st3 fun b _ o e => by rw [← hs4]; exact pushCells_keeps _ _ _ _ (Heap.get?_push_of_some _ e)
  have fpk : ∀ {σ' : L2.St} {H' : Hp} {s' : Shared}, Inv (X.blk s3 H3 scope ce fp) [] σ' H' s' → (∀ b ∈ fp, H' b = none) → ∀ b ∈ fp, FpOk (X.blk s3 H3 scope ce fp) [] H' b := fun {_ H' _} I' hn b hb =>
    ⟨hn b hb, (I'.ok.exf b hb).1, I'.ok.exfs b hb, .inl hb, (fun x c e => (I'.ok.exf b hb).2 x c e), fun p m => by cases (show p ∈ ([] : List (Addr × Obj)) ++ [] from m)⟩
  refine codeAny_compStart_set (?loop : codeAny (model X.prog X.w) X.A (.compLoop (.SetComp elt [⟨tg, iter, ifs, 0⟩] scope pos) 0 (.ref it) (.ref D) ce) _ s4) (T.self X.A 0 _ _ _ st4 ?loop)
  refine compLoopS_any (fun n s' => ∃ i H', (Inv (X.blk s3 H3 scope ce fp) [] (wipe σ (own.map (·.2))) H' s' ∧ tn i s'.heap) ∧ (∀ b ∈ fp, H' b = none) ∧ W i n H') (fun n s5 hI => ?_) m0 ⟨0, H3, ⟨I4, st4⟩, nfp, w0⟩
  obtain ⟨i, H5, ⟨I5, st5⟩, n5, w5⟩ := hI
  rcases turn i n H5 w5 with ⟨stop, qq⟩ | ⟨go, Nx, hNx, step⟩
  · refine thnF (T.done (X.blk s3 H3 scope ce fp) rfl rfl rfl hc i [] s5 _ H5 (fun _ _ => False) I5 (fpk I5 n5) st5 stop) fun r s6 h6 => ?_
    obtain ⟨rfl, I6⟩ := h6
    have I7 : Inv X pins σ H5 s6 := I3.call' (ch := fp) I6.os I6.base I6.hok I6.bare fun b hb => let z := (f3 b hb).1; ⟨z.2.2.2.1, z.2.1, z.2.2.2.2.1, z.2.2.2.2.2⟩
    have nC : H5 s3.heap.objs.size = none := by rw [← loc]; exact I6.free
    obtain ⟨m, hn, _⟩ := I6.loc
    have hn : s6.heap.Ns s3.heap.objs.size m := by rw [← loc]; exact hn
    refine ⟨m, hn, fun h'' sb => ?_⟩
    obtain ⟨g0, g1, g2, g3, g4, g5⟩ := I3.fpOk (Nat.le_refl _) nC
    exact ⟨.ref D, H5, I7.turned (t' := s6.toks) (fun b o hb e => (sb.2 b hb).trans e) g0 g1 g3 g4 g5, rfl, qq⟩
  · refine thnF (T.item (X.blk s3 H3 scope ce fp) rfl rfl rfl hc i [] s5 _ H5 (fun _ _ => False) I5 (fpk I5 n5) st5 go) fun r s6 h6 => ?_
    obtain ⟨u, rfl, h6⟩ := h6
    refine thnF h6 fun _ s7 h7 => ?_
    obtain ⟨x, H7, I7, r7, y7, st7, n7⟩ := h7
    have I7' := I7.pinned (fpk I7 n7) (T.obj _ _ st7)
    refine thnF (pg.run _ s7 _ H7 x u _ I7' r7 (step x H7 y7)) fun _ s8 h8 => ?_
    obtain ⟨σ8, H8, I8, hw8, q8⟩ := h8
    refine thnF (pt.run _ s8 σ8 H8 _ I8 q8) fun b s9 h9 => ?_
    obtain ⟨H9, I9, q9⟩ := h9
    have back : ∀ {s' : Shared} {H' : Hp}, Inv (X.blk s3 H3 scope ce fp) ([] ++ pinsAt fp s7.heap) σ8 H' s' → Nx H' → ∃ m, m < n ∧ ∃ i H', (Inv (X.blk s3 H3 scope ce fp) [] (wipe σ (own.map (·.2))) H' s' ∧ tn i s'.heap) ∧ (∀ b ∈ fp, H' b = none) ∧ W i m H' := fun {s' H'} I' nx => by
      obtain ⟨m', hm, w'⟩ := hNx H' nx
      have pin : ∀ b ∈ fp, ∀ o, s7.heap.get? b = some o → s'.heap.get? b = some o ∧ H' b = none := fun b hb o e => let z := I'.pin (b, o) (List.mem_append_right _ (List.mem_append_right _ (mem_pinsAt hb e))); ⟨z.1, z.2.1⟩
      refine ⟨m', hm, i + 1, H', ⟨(I'.unpinned (pins := [])).weak (by rw [← hw8, wipe_length]) fun j v e => ?_, T.keep _ _ _ st7 fun b hb o e => (pin b hb o e).1⟩, fun b hb => ?_, w'⟩
      · rw [← hw8] at e
        exact (wipe_some e).1
      · obtain ⟨o, e, _⟩ := T.obj _ _ st7 b hb
        exact (pin b hb o e).2
    cases b with
    | false => exact back I9 q9
    | true =>
      refine thnF (pe.run _ s9 σ8 H9 _ I9 q9) fun z s10 h10 => ?_
      obtain ⟨yv, H10, I10, r10, c, k, L, rfl, hx, hD10, tu, few, nx⟩ := h10
      cases (show z = Value.ref c from r10)
      exact addN_ok (X := X.blk s3 H3 scope ce fp) I10 hD10 tu hx few hu fun s11 L' I11 gr => back I11 (nx L' gr)
end
end Sn

set_option Elab.async false
set_option linter.all false
set_option maxRecDepth 100000
set_option maxHeartbeats 4000000
/-! sorted(a set of names) -/
namespace Sn
open PySem PySem.Spec PyProof.Rows L2 Br
section
variable {prog : Program} {w : World} {A : Around} {E : Value → Shared → Prop} {s : Shared} {a : Addr} {L : List (Addr × List Key)} {es : Array (Int × Value)} {ep : Nat} {t : SetTable}
/-- sorted(set): what is collected, in whatever order, is sorted -/
theorem sorted_setN {shape : Nat → Bool} {Q : Value → Shared → Prop} (S : Tr prog w s.heap a L es ep t) (hh : A.handled = none)
    (ht : ∀ h2 : Heap, (∀ b o, s.heap.get? b = some o → h2.get? b = some o) → ∀ vs : List Value, vs.Perm (L.map fun p => Value.ref p.1) → ∃ fs, TupsOf h2 shape vs fs)
    (hk : ∀ h2 : Heap, (∀ b o, s.heap.get? b = some o → h2.get? b = some o) → ∀ v, v ∈ (L.map fun p => Value.ref p.1) → ∃ x, G.tupKeyC h2 shape v = some x)
    (h : ∀ (s1 : Shared) (h1 : Heap) (vs : List Value) (st' : SortSt), (∀ b o, s.heap.get? b = some o → s1.heap.get? b = some o) → s.heap.objs.size ≤ s1.heap.objs.size → s1.gens = s.gens → s1.os = s.os → vs.Perm (L.map fun p => Value.ref p.1) →
      (∀ b o, s1.heap.get? b = some o → h1.get? b = some o) → h1.get? s1.heap.objs.size = some (seqObj "list" vs.toArray 0) → (arrOf st').Perm (pairsOf vs) → SortedToK (G.tupKindC h1 shape) (arrOf st') (pairsOf vs).size →
      Q (.ref s1.heap.objs.size) { s1 with heap := sortedHeap h1 s1.heap.objs.size vs ((arrOf st').map (·.2)) }) : wpAny (model prog w) A (call (.builtin "sorted") [.ref a]) Q E s := by
  have sz := S.sz
  have few := S.fw
  obtain ⟨o, oa, ox, od⟩ := S.ob
  have val : es.toList.map (·.2) = L.map fun p => Value.ref p.1 := by rw [S.ro, List.map_map]; rfl
  refine Calls.call_function_entry kind_sorted plain_sorted entry_sorted (args_sorted1 _) ?_
  unfold Builtin.«sorted»
  refine wpAny_bind (m := checkCount "sorted" 1 1 _) (wpAny_pure (wpAny_bind (collect_set (A := A.in1) hh ⟨o, oa, ox.1, od⟩ S.ft (by unfold scanBound; omega) S.tb.ris S.ld fun s1 vs k1 z1 g1 o1 pm => ?_)))
  rw [val] at pm
  have ln : vs.length = L.length := by rw [pm.length_eq, List.length_map]
  have hL : vs.length ≤ sizeLine := by rw [ln, sizeLine_eq]; omega
  refine wpAny_bind (wpAny_newList ?_ hL)
  have k2 : ∀ b o, s1.heap.get? b = some o → (s1.heap.push (seqObj "list" vs.toArray 0)).get? b = some o := fun b o e => Heap.get?_push_of_some _ e
  have at1 : (s1.heap.push (seqObj "list" vs.toArray 0)).get? s1.heap.objs.size = some (seqObj "list" vs.toArray 0) := Heap.get?_push_size _ rfl
  obtain ⟨fs, tf⟩ := ht (s1.heap.push (seqObj "list" vs.toArray 0)) (fun b o e => k2 b o (k1 b o e)) vs pm
  refine wpAny_bind (wpAny_holding (wpAny_call_entry (s := { s1 with heap := s1.heap.push (seqObj "list" vs.toArray 0) }) slot_list_sort ⟨_, at1, rfl⟩ entry_list_sort (G.list_sort_tups at1 tf (fun v m => hk _ (fun b o e => k2 b o (k1 b o e)) v (pm.mem_iff.mp m)) hL fun st' a1 a2 a3 => ⟨_, rfl, ?r⟩) (args_list_sort _)))
  exact wpAny_pure ⟨_, rfl, h s1 _ vs st' k1 z1 g1 o1 pm k2 at1 a1 a2⟩
end
theorem perm_pull {α β : Type} {f : α → β} : ∀ {out : List β} {L : List α}, out.Perm (L.map f) → ∃ L' : List α, out = L'.map f ∧ L'.Perm L
  | [], L, h => ⟨[], rfl, by rw [List.map_eq_nil_iff.mp (List.nil_perm.mp h)]⟩
  | v :: r, L, h => by
    obtain ⟨p, hp, e⟩ := List.mem_map.mp (h.mem_iff.mp List.mem_cons_self)
    obtain ⟨l1, l2, rfl⟩ := List.append_of_mem hp
    have h2 : (v :: r).Perm (f p :: (l1 ++ l2).map f) := h.trans (by rw [List.map_append, List.map_cons, List.map_append]; exact List.perm_middle)
    rw [e] at h2
    obtain ⟨L', e', pm⟩ := perm_pull h2.cons_inv
    exact ⟨p :: L', by rw [List.map_cons, e, ← e'], (pm.cons p).trans List.perm_middle.symm⟩
section
variable {X : Cx}
def rSortNs (K : PySem.W.Frag) (P : Program) (w : World) : List V → Hp → VK → Prop := fun vs H Q => ∃ (a : Addr) (L : List (Addr × List Key)) (kf : Value → Str × Int), vs = [.ref a] ∧ H a = some (NsO P w a L) ∧ (∀ p ∈ L, SqT K H p.1 (p.2.map kV) ∧ p.2 = nkeys (kf (.ref p.1))) ∧
  ∀ (L' : List (Addr × List Key)) (p : Addr), L'.Perm L → (L'.map (·.2)).Nodup → L'.Pairwise (fun x y => ltN (kf (.ref y.1)) (kf (.ref x.1)) = false) → H p = none → Q (.ref p) (upd H p (.lst (L'.map fun q => .ref q.1)))
theorem refs_vals : ∀ L : List (Addr × List Key), Vals (L.map fun q => V.ref q.1) (L.map fun q => Value.ref q.1)
  | [] => .nil
  | p :: L => .cons rfl (refs_vals L)
theorem cr_sortNs (hc : X.calm = true) : CallR X (.builtin "sorted") (rSortNs X.K X.prog X.w) := by
  intro pins s σ H vs ws Q I r h
  obtain ⟨a, L, kf, rfl, ha, hx, q⟩ := h
  obtain ⟨u, rfl, ru⟩ := vals1 r
  cases (show u = Value.ref a from ru)
  obtain ⟨es, ep, t, S⟩ := (n0_get I ha).tr fun p m => tu_of I (hx p m).1
  let shape : Nat → Bool := fun i => decide (i = 0)
  have look : ∀ v ∈ (L.map fun p => Value.ref p.1), ∃ t o t1 t2 n, v = .ref t ∧ s.heap.get? t = some o ∧ o.cls = .type "tuple" ∧ o.data = .seq #[.str (kf v).1 t1, .int (kf v).2 t2] n := by
    intro v hv
    obtain ⟨p, hp, rfl⟩ := List.mem_map.mp hv
    obtain ⟨sq, e⟩ := hx p hp
    rw [e] at sq
    obtain ⟨its2, r2, ⟨o, ho, hcl, n, hd⟩, _⟩ := I.tuple sq
    obtain ⟨u1, u2, rfl, ⟨t1, rfl⟩, ⟨t2, rfl⟩⟩ := vals2 r2
    exact ⟨_, o, t1, t2, n, rfl, ho, hcl, hd⟩
  have key : ∀ h2 : Heap, (∀ b o, s.heap.get? b = some o → h2.get? b = some o) → ∀ v ∈ (L.map fun p => Value.ref p.1), G.tupKeyC h2 shape v = some (rawKey (kf v)) := fun h2 k v hv => by
    obtain ⟨t, o, t1, t2, n, e, ho, hcl, hd⟩ := look v hv
    have ho := k _ _ ho
    subst e
    have it : G.isTupObj h2 (.ref t) = true := by unfold G.isTupObj; simp [ho, hcl]
    unfold G.tupKeyC
    rw [if_pos it]
    unfold tupKey
    simp only [ho, hd]
    rfl
  refine sorted_setN (shape := shape) S (I.ok.hd hc) (fun h2 k vs pm => tups_of fun v hv => ?_) (fun h2 k v hv => ⟨_, key h2 k v hv⟩) fun s1 h1 vs st' k1 z1 g1 o1 pm k2 l1 hp hso => ?_
  · obtain ⟨t, o, t1, t2, n, rfl, ho, hcl, hd⟩ := look v (pm.mem_iff.mp hv)
    exact ⟨_, t, o, _, n, rfl, k _ _ ho, hcl, hd, rfl, fun z => (by cases z), fun _ => ⟨_, _, rfl⟩⟩
  have zz : (pairsOf vs).toList = vs.zip vs := pairsOf_toList vs
  have hpl : (arrOf st').toList.Perm (vs.zip vs) := by rw [← zz]; exact hp.toList
  have own : ∀ p ∈ (arrOf st').toList, p.1 = p.2 ∧ p.1 ∈ vs := fun p hm => mem_zip_self (hpl.mem_iff.mp hm)
  have sz : (arrOf st').size = vs.length := by
    have := hpl.length_eq
    rw [Array.length_toList, List.length_zip] at this
    omega
  have outp : ((arrOf st').toList.map (·.2)).Perm vs := by
    have z := hpl.map (·.2)
    rwa [List.map_snd_zip (Nat.le_refl _)] at z
  have oute : ((arrOf st').map (·.2)).toList = (arrOf st').toList.map (·.2) := Array.toList_map
  obtain ⟨L', eL, pL⟩ := perm_pull (outp.trans pm)
  obtain ⟨e, hn⟩ := sortedHeap_at (vs := vs) (out := (arrOf st').map (·.2)) l1
  have lenL : L'.length < 18 := by rw [pL.length_eq]; exact S.fw
  have kk : ∀ n (hn : n < (arrOf st').size), KK (G.tupKindC h1 shape) (arrOf st') n = rawKey (kf ((arrOf st')[n]).2) := fun n hn => by
    have m : (arrOf st')[n] ∈ (arrOf st').toList := by
      rw [← Array.getElem_toList]
      exact List.getElem_mem _
    obtain ⟨o1, o2⟩ := own _ m
    unfold KK
    rw [Array.getElem?_eq_getElem hn]
    show (G.tupKeyC h1 shape ((arrOf st')[n]).1).getD [] = _
    rw [key h1 (fun b o e => k2 b o (k1 b o e)) _ (pm.mem_iff.mp o2), ← o1]
    rfl
  have pw : L'.Pairwise (fun x y => ltN (kf (.ref y.1)) (kf (.ref x.1)) = false) := by
    have base : ((arrOf st').toList.map (·.2)).Pairwise (fun x y => ltN (kf y) (kf x) = false) := by
      rw [List.pairwise_iff_getElem]
      intro i j hi hj hij
      have hi' : i < (arrOf st').size := by rwa [List.length_map, Array.length_toList] at hi
      have hj' : j < (arrOf st').size := by rwa [List.length_map, Array.length_toList] at hj
      have z := hso i j (Nat.le_of_lt hij) (by
        have : (pairsOf vs).size = vs.length := by rw [← Array.length_toList, zz, List.length_zip]; omega
        omega)
      rw [kk i hi', kk j hj'] at z
      have z' : (listOrd itemOrd).blt (rawKey (kf ((arrOf st')[j]).2)) (rawKey (kf ((arrOf st')[i]).2)) = false := z
      rw [raw_lt] at z'
      simp only [List.getElem_map, Array.getElem_toList]
      exact z'
    rw [eL] at base
    exact List.pairwise_map.mp base
  have old : ∀ b o, s.heap.get? b = some o → (sortedHeap h1 s1.heap.objs.size vs ((arrOf st').map (·.2))).get? b = some o := fun b o z => by
    have lt := Nat.lt_of_lt_of_le (Heap.lt_size z) z1
    have z2 := k2 _ _ (k1 _ _ z)
    rw [sortedHeap_old (Nat.ne_of_lt lt) (Heap.lt_size z2)]
    exact z2
  have J : Inv X pins σ (upd H s1.heap.objs.size (.lst (L'.map fun q => .ref q.1))) { s with heap := sortedHeap h1 s1.heap.objs.size vs ((arrOf st').map (·.2)), gens := s1.gens, drawn := s1.drawn, toks := s1.toks } := by
    refine I.call (ch := []) (Un.laid old z1 (I.hok.fresh z1)) (I.hok.laid old z1 ⟨by rw [List.length_map, sizeLine_eq]; omega, L'.map fun q => Value.ref q.1, e, refs_vals L', ?_⟩) (by rw [g1]; exact I.bare) fun _ z => nomatch z
    rw [hn, ← eL, ← oute, Array.toArray_toList]
  have es1 : ({ s1 with heap := sortedHeap h1 s1.heap.objs.size vs ((arrOf st').map (·.2)) } : Shared) = { s with heap := sortedHeap h1 s1.heap.objs.size vs ((arrOf st').map (·.2)), gens := s1.gens, drawn := s1.drawn, toks := s1.toks } := by
    cases s1; cases s; cases o1; rfl
  rw [es1]
  exact ⟨.ref s1.heap.objs.size, _, J, rfl, q L' _ pL ((pL.map (·.2)).nodup_iff.mpr S.nd) pw (I.hok.fresh z1)⟩
end
end Sn

set_option Elab.async false
set_option linter.all false
set_option maxRecDepth 100000
set_option maxHeartbeats 4000000
/-! Sets of names: {.. for ..}, sorted at once. -/
namespace Dl
open PySem PySem.Spec PyProof.Rows L2 Br Sn
section
variable {K : PySem.W.Frag} {P : Program} {w : World}
abbrev Zr := (Addr × List Key) × D
/-- a set's elements as they lie, with their data -/
def ZsIn (K : PySem.W.Frag) (G : Hp) (zs : List Zr) : Prop := ∀ z ∈ zs, Rp K G (.ref z.1.1) z.2 ∧ isPr z.2 = true ∧ z.1.2 = nkeys (prOf z.2)
/-- some of those that were put in, each once -/
def Dd (acc ds : List D) : Prop := (∀ d ∈ ds, d ∈ acc) ∧ (∀ d ∈ acc, prOf d ∈ ds.map prOf) ∧ (ds.map prOf).Nodup
theorem dd_nil : Dd [] [] := ⟨(fun _ h => nomatch h), (fun _ h => nomatch h), List.nodup_nil⟩
theorem nkeys_inj {a b : Str × Int} (h : nkeys a = nkeys b) : a = b := by
  obtain ⟨x, i⟩ := a
  obtain ⟨y, j⟩ := b
  unfold nkeys at h
  simp at h
  rw [h.1, h.2]
theorem zs_same {G G' : Hp} (e : Same G G') {zs : List Zr} (h : ZsIn K G zs) : ZsIn K G' zs := fun z m => let q := h z m; ⟨rp_same e q.1, q.2⟩
theorem zs_tu {G H : Hp} (g : Same G H) {zs : List Zr} (h : ZsIn K G zs) : ∀ p ∈ zs.map (·.1), SqT K H p.1 (p.2.map kV) := fun p m => by
  obtain ⟨z, hz, rfl⟩ := List.mem_map.mp m
  obtain ⟨r, ip, e⟩ := h z hz
  obtain ⟨b, eb, sq⟩ := pr_name g r ip
  cases eb
  rw [e]; exact sq
/-- one is put in -/
theorem zs_grew {G : Hp} {zs : List Zr} {acc : List D} {d : D} {c : Addr} {L' : List (Addr × List Key)} (h : ZsIn K G zs) (dd : Dd acc (zs.map (·.2))) (r : Rp K G (.ref c) d) (ip : isPr d = true) (gr : Grew (zs.map (·.1)) L' c (nkeys (prOf d))) :
    ∃ zs' : List Zr, L' = zs'.map (·.1) ∧ ZsIn K G zs' ∧ Dd (acc ++ [d]) (zs'.map (·.2)) ∧ zs'.length ≤ zs.length + 1 := by
  obtain ⟨d1, d2, d3⟩ := dd
  have keys : (zs.map (·.1)).map (·.2) = (zs.map (·.2)).map fun d => nkeys (prOf d) := by
    rw [List.map_map, List.map_map]
    exact List.map_congr_left fun z m => (h z m).2.2
  rcases gr with ⟨m, rfl⟩ | ⟨nm, pm⟩
  · refine ⟨zs, rfl, h, ⟨fun x hx => List.mem_append_left _ (d1 x hx), fun x hx => ?_, d3⟩, by omega⟩
    rcases List.mem_append.mp hx with hx | hx
    · exact d2 x hx
    · rw [List.mem_singleton.mp hx]
      rw [keys] at m
      obtain ⟨y, hy, e⟩ := List.mem_map.mp m
      exact List.mem_map.mpr ⟨y, hy, nkeys_inj e⟩
  · obtain ⟨zs', e', pm'⟩ := perm_pull (f := fun z : Zr => z.1) (L := ((c, nkeys (prOf d)), d) :: zs) pm
    have pm2 : (zs'.map (·.2)).Perm (d :: zs.map (·.2)) := pm'.map (·.2)
    refine ⟨zs', e', fun z m => ?_, ⟨fun x hx => ?_, fun x hx => ?_, ?_⟩, by rw [pm'.length_eq]; exact Nat.le_refl _⟩
    · rcases List.mem_cons.mp (pm'.mem_iff.mp m) with rfl | m
      · exact ⟨r, ip, rfl⟩
      · exact h z m
    · rcases List.mem_cons.mp (pm2.mem_iff.mp hx) with rfl | hx
      · exact List.mem_append_right _ (List.mem_singleton.mpr rfl)
      · exact List.mem_append_left _ (d1 x hx)
    · rw [(pm2.map prOf).mem_iff, List.map_cons]
      rcases List.mem_append.mp hx with hx | hx
      · exact List.mem_cons_of_mem _ (d2 x hx)
      · rw [List.mem_singleton.mp hx]; exact List.mem_cons_self
    · rw [(pm2.map prOf).nodup_iff, List.map_cons]
      refine List.nodup_cons.mpr ⟨fun m => nm ?_, d3⟩
      obtain ⟨y, hy, e⟩ := List.mem_map.mp m
      rw [keys]
      exact List.mem_map.mpr ⟨y, hy, by rw [e]⟩
/-- the flavour: a new set; its data are a list of its elements -/
def fN (P : Program) (w : World) (K : PySem.W.Frag) : Fl := fun H0 σ ρ G H v d => ∃ (p : Addr) (zs : List Zr), v = .ref p ∧ H p = some (NsO P w p (zs.map (·.1))) ∧ d = .list (zs.map (·.2)) ∧ ZsIn K G zs
def mNcL (mg : MG) (mt : MT) (me : ME) (vs : List Nat) (k : List D → Cs → Prop) : List D → List D → Cs → Prop
  | [], acc, ρ => k acc ρ
  | x :: r, acc, ρ => mg x ρ fun ρ1 => mt ρ1 fun b ρ2 => if b = true then me ρ2 fun d ρ3 => (isPr d = true ∧ acc.length < 16) ∧ mNcL mg mt me vs k r (acc ++ [d]) (wipeC ρ3 vs) else mNcL mg mt me vs k r acc (wipeC ρ2 vs)
def mNc (mi : MI) (mg : MG) (mt : MT) (me : ME) (vs : List Nat) : ME := fun ρ k => mi ρ fun xs ρ1 => mNcL mg mt me vs (fun acc ρ2 => ∀ ds, Dd acc ds → (∀ d ∈ ds, isPr d = true) → k (.list ds) ρ2) xs [] (wipeC ρ1 vs)
theorem mo_ncL {mg : MG} {mt : MT} {me : ME} {vs : List Nat} (hg : ∀ d ρ (k k' : Cs → Prop), (∀ ρ', k ρ' → k' ρ') → mg d ρ k → mg d ρ k') (ht : Mo mt) (he : Mo me) {k k' : List D → Cs → Prop} (w : ∀ d ρ', k d ρ' → k' d ρ') : ∀ (xs acc : List D) (ρ : Cs), mNcL mg mt me vs k xs acc ρ → mNcL mg mt me vs k' xs acc ρ
  | [], acc, ρ, h => w _ _ h
  | x :: r, acc, ρ, h => hg _ _ _ _ (fun ρ1 => ht ρ1 _ _ fun b ρ2 q => by
    cases b
    · exact mo_ncL hg ht he w r acc _ q
    · exact he ρ2 _ _ (fun d ρ3 z => ⟨z.1, mo_ncL hg ht he w r _ _ z.2⟩) q) h
theorem mo_nc {wi : MI} {g : TG} {mg : MG} {mt : MT} {me : ME} {vs ts : List Nat} (hi : Mo wi) (sg : SG K 0 ts g mg) (ht : Mo mt) (he : Mo me) : Mo (mNc wi mg mt me vs) := fun ρ k k' w => hi ρ _ _ fun xs ρ1 q => mo_ncL sg.mono ht he (fun acc ρ2 z ds a b => w _ _ (z ds a b)) xs [] _ q
theorem t_nc {wi : MI} {g : TG} {mg : MG} {mt : MT} {me : ME} {vs ts : List Nat} (hi : Mo wi) (sg : SG K 0 ts g mg) (hts : ∀ t ∈ ts, t ∈ vs) (ht : Mo mt) (he : Mo me) (σ : L2.St) (H : Hp) (Q : VK) (h : tE K (fN P w K) (mNc wi mg mt me vs) σ H Q) :
    tNc P w K (tI K wi) g (tT K mt) (tE K (fE K) me) vs σ H Q := by
  obtain ⟨G, ρ, R, h⟩ := h
  refine ⟨G, ρ, R, hi ρ _ _ (fun xs ρ1 q J G1 H1 R1 l1 wk L hL => ?_) h⟩
  have nG : G1 L = none := R1.gh.free hL
  have n0 : H L = none := l1.st.dom L hL
  have nw : ¬ Ow (wipe σ vs) (wipeC ρ1 vs) L := fun w => (R1.wipe vs).old w hL
  refine ⟨fun i k H' => k = xs.length - i ∧ i ≤ xs.length ∧ ∃ G' ρ' acc zs, Rel K (wipe σ vs) G' H' (wipeC ρ' vs) ∧ Same G1 G' ∧ Lk 0 σ G H ρ (wipe σ vs) G' H' (wipeC ρ' vs) ∧ H' L = some (NsO P w L (zs.map (·.1))) ∧ G' L = none ∧ ¬ Ow (wipe σ vs) (wipeC ρ' vs) L ∧ (ZsIn K G' zs ∧ Dd acc (zs.map (·.2)) ∧ zs.length ≤ acc.length) ∧
    mNcL mg mt me vs (fun acc ρ2 => ∀ ds, Dd acc ds → (∀ d ∈ ds, isPr d = true) → ∀ v G' H', Rel K σ G' H' ρ2 → Lk 0 σ G H ρ σ G' H' ρ2 → fN P w K H σ ρ2 G' H' v (.list ds) → Q v H') (xs.drop i) acc (wipeC ρ' vs),
    ⟨_, rfl, Nat.zero_le _, G1, ρ1, [], [], (R1.wipe vs).poke nG nw, .refl _, (l1.wipe vs).poke n0, upd_same, nG, nw, ⟨(fun _ h => nomatch h), dd_nil, Nat.zero_le _⟩, q⟩, ?_⟩
  rintro i k H2 ⟨rfl, hle, G2, ρ2, acc, zs, R2, g2, l2, hL2, nG2, nw2, ⟨za, zd, zl⟩, q2⟩
  obtain ⟨w1, w2, w3⟩ := wk G2 H2 g2 R2.gh
  by_cases hlt : i < xs.length
  · refine .inr ⟨w1 i hlt, fun H' => ∃ G' ρ' acc zs, Rel K (wipe σ vs) G' H' (wipeC ρ' vs) ∧ Same G1 G' ∧ Lk 0 σ G H ρ (wipe σ vs) G' H' (wipeC ρ' vs) ∧ H' L = some (NsO P w L (zs.map (·.1))) ∧ G' L = none ∧ ¬ Ow (wipe σ vs) (wipeC ρ' vs) L ∧ (ZsIn K G' zs ∧ Dd acc (zs.map (·.2)) ∧ zs.length ≤ acc.length) ∧
      mNcL mg mt me vs (fun acc ρ2 => ∀ ds, Dd acc ds → (∀ d ∈ ds, isPr d = true) → ∀ v G' H', Rel K σ G' H' ρ2 → Lk 0 σ G H ρ σ G' H' ρ2 → fN P w K H σ ρ2 G' H' v (.list ds) → Q v H') (xs.drop (i + 1)) acc (wipeC ρ' vs), fun H' z => ⟨xs.length - (i + 1), by omega, rfl, hlt, z⟩, fun x H3 y => ?_⟩
    obtain ⟨G3, dx, gh3, st3, hx, rx⟩ := w3 i x H3 hlt y
    have R3 := R2.pure st3 gh3
    have l3 := l2.trans (Lk.pure (n := 0) (ρ := wipeC ρ2 vs) (σ := wipe σ vs) st3)
    have hL3 : H3 L = some (NsO P w L (zs.map (·.1))) := st3.hh L _ (fun z => z) hL2
    have nG3 : G3 L = none := st3.fr L _ (fun z => z) hL2 nG2 rfl
    have e : xs.drop i = dx :: xs.drop (i + 1) := by
      rw [List.drop_eq_getElem_cons hlt]
      rw [List.getElem?_eq_getElem hlt] at hx
      rw [Option.some.inj hx]
    rw [e] at q2
    refine sg.run (wipe σ vs) G3 H3 (wipeC ρ2 vs) x dx _ R3 rx (sg.mono _ _ _ _ (fun ρ4 q4 σ4 R4 l4 c4 => ?_) q2)
    have ew : wipe σ4 vs = wipe σ vs := (c4.wipe hts).trans wipe_wipe
    refine ⟨ew, G3, ρ4, R4, ht ρ4 _ _ (fun b ρ5 q5 G5 H5 R5 l5 => ?_) q4⟩
    have own4 : ¬ Ow σ4 ρ4 L := fun w => by
      rcases l4.sb L w with z | z
      · exact nw2 z
      · rw [hL3] at z; cases z
    have hL5 : H5 L = some (NsO P w L (zs.map (·.1))) := l5.st.hh L _ own4 hL3
    have nG5 : G5 L = none := l5.st.fr L _ own4 hL3 nG3 rfl
    have l05 := l3.trans (l4.trans l5)
    cases b
    · have z : Lk 0 (wipe σ vs) G3 H3 (wipeC ρ2 vs) (wipe σ4 vs) G5 H5 (wipeC ρ5 vs) := (l4.trans l5).wipe vs
      have RR := R5.wipe vs
      have LL := l05.wipe vs
      rw [ew] at RR LL z
      refine ⟨G5, ρ5, acc, zs, RR, (g2.trans st3.gg).trans l5.st.gg, LL, hL5, nG5, fun w => ?_, ⟨zs_same (st3.gg.trans l5.st.gg) za, zd, zl⟩, q5⟩
      rcases z.sb L w with z | z
      · exact nw2 z
      · rw [hL3] at z; cases z
    · refine ⟨G5, ρ5, R5, he ρ5 _ _ (fun d ρ6 q6 v G6 H6 R6 l6 rv => ?_) q5⟩
      obtain ⟨⟨ip, few⟩, q6⟩ := q6
      have own5 : ¬ Ow σ4 ρ5 L := fun w => by
        rcases l5.sb L w with z | z
        · exact own4 z
        · rw [hL3] at z; cases z
      have hL6 : H6 L = some (NsO P w L (zs.map (·.1))) := l6.st.hh L _ own5 hL5
      have nG6 : G6 L = none := l6.st.fr L _ own5 hL5 nG5 rfl
      have za6 : ZsIn K G6 zs := zs_same ((st3.gg.trans l5.st.gg).trans l6.st.gg) za
      obtain ⟨c, rfl, sq⟩ := pr_name R6.gh rv ip
      refine ⟨c, nkeys (prOf d), zs.map (·.1), rfl, sq, hL6, zs_tu R6.gh za6, by rw [List.length_map]; omega, fun L' gr => ?_⟩
      obtain ⟨zs', rfl, za', zd', zl'⟩ := zs_grew za6 zd rv ip gr
      have z : Lk 0 (wipe σ vs) G3 H3 (wipeC ρ2 vs) (wipe σ4 vs) G6 H6 (wipeC ρ6 vs) := ((l4.trans l5).trans l6).wipe vs
      have RR := R6.wipe vs
      have LL := (l05.trans l6).wipe vs
      rw [ew] at RR LL z
      have nw6 : ¬ Ow (wipe σ vs) (wipeC ρ6 vs) L := fun w => by
        rcases z.sb L w with z | z
        · exact nw2 z
        · rw [hL3] at z; cases z
      exact ⟨G6, ρ6, acc ++ [d], zs', RR.poke nG6 nw6, ((g2.trans st3.gg).trans l5.st.gg).trans l6.st.gg, LL.poke n0, upd_same, nG6, nw6, ⟨za', zd', by simp; omega⟩, q6⟩
  · have e : i = xs.length := by omega
    subst e
    rw [List.drop_length] at q2
    obtain ⟨Rf, of⟩ := R2.unwipe
    exact .inl ⟨w2, q2 _ zd (fun d m => by obtain ⟨z, hz, rfl⟩ := List.mem_map.mp m; exact (za z hz).2.1) _ G2 H2 Rf ⟨l2.st, fun p w => l2.sb p (of p w), fun _ h => absurd h (Nat.not_lt_zero _)⟩ ⟨L, zs, rfl, hL2, rfl, za⟩⟩
end
section
variable {K : PySem.W.Frag} {X : Cx}
/-- {elt for tg in iter if ifs} -/
theorem se_nc {elt tg iter : Expr} {ifs : List Expr} {scope : Scope} {own : List (Str × Nat)} {pos : Pos} {wi : MI} {g : TG} {mg : MG} {mt : MT} {me : ME} {ts : List Nat} (hu : X.A.units + 64 < cLine) (hK : X.K = K) (hc : X.calm = true) (hN : X.N.Nodup) (hi : SI K X tg iter wi) (ok : BlkOk X.N X.env.scope scope own)
    (hg : ∀ (s : Shared) (H : Hp) (C : Addr) (cl : List (Str × Addr)) (fp : List Addr), PG (X.blk s H scope (compEnvC scope cl C X.env) fp) tg g) (sg : SG K 0 ts g mg) (hts : ∀ t ∈ ts, t ∈ own.map (·.2))
    (ht : ∀ (s : Shared) (H : Hp) (C : Addr) (cl : List (Str × Addr)) (fp : List Addr), STs K (X.blk s H scope (compEnvC scope cl C X.env) fp) ifs mt)
    (he : ∀ (s : Shared) (H : Hp) (C : Addr) (cl : List (Str × Addr)) (fp : List Addr), SE K (fE K) (X.blk s H scope (compEnvC scope cl C X.env) fp) elt me) (hs : ∀ x, foldedSetIterable iter X.env x = pure x := by intro _; rfl) :
    SE K (fN X.prog X.w K) X (.SetComp elt [⟨tg, iter, ifs, 0⟩] scope pos) (mNc wi mg mt me (own.map (·.2))) := by
  subst hK
  have mt' := (ht X.s_0 X.H_0 0 [] []).mono
  have me' := (he X.s_0 X.H_0 0 [] []).mono
  exact ⟨mo_nc hi.mono sg mt' me', pe_weak (pe_nc hu hc hN hi.pi ok hg (fun s H C cl fp => (ht s H C cl fp).pts) (fun s H C cl fp => (he s H C cl fp).pe) hs) (t_nc hi.mono sg hts mt' me')⟩
/-- sorted(a new set of names) -/
theorem callr_sortedNs (hc : X.calm = true) : CallR X (.builtin "sorted") (fun xs H Q => ∃ (x : V) (G : Hp) (zs : List Zr), xs = [x] ∧ Same G H ∧ (∃ p, x = .ref p ∧ H p = some (NsO X.prog X.w p (zs.map (·.1)))) ∧ ZsIn X.K G zs ∧ oSorted_pairs (.list (zs.map (·.2))) (Then X.K (pF X.K) G H Q)) := by
  intro pins s σ H xs us Q I r h
  obtain ⟨x, G, zs, rfl, g, ⟨p, rfl, hp⟩, za, hall, q⟩ := h
  have tu := zs_tu g za
  let kf : Value → Str × Int := fun v => open Classical in if h : ∃ n, ∃ b k, v = .ref b ∧ (b, k) ∈ zs.map (·.1) ∧ k = nkeys n then Classical.choose h else (Str.empty, 0)
  have kf_at : ∀ z ∈ zs, z.1.2 = nkeys (kf (.ref z.1.1)) := fun z m => by
    have ex : ∃ n, ∃ b k, (Value.ref z.1.1) = .ref b ∧ (b, k) ∈ zs.map (·.1) ∧ k = nkeys n := ⟨prOf z.2, z.1.1, z.1.2, rfl, List.mem_map.mpr ⟨z, m, rfl⟩, (za z m).2.2⟩
    have e : kf (.ref z.1.1) = Classical.choose ex := dif_pos ex
    obtain ⟨b, k, e1, e2, e3⟩ := Classical.choose_spec ex
    cases e1
    have t1 := tu z.1 (List.mem_map.mpr ⟨z, m, rfl⟩)
    have t2 := tu _ e2
    have e4 := kVs_inj (I.tuple_inj t1 t2)
    rw [e, ← e3]
    exact e4
  refine cr_sortNs hc pins s σ H _ us Q I r ⟨p, zs.map (·.1), kf, rfl, hp, fun y m => ?_, fun L' p' pm nd pw np => ?_⟩
  · obtain ⟨z, hz, rfl⟩ := List.mem_map.mp m
    exact ⟨tu _ m, kf_at z hz⟩
  · obtain ⟨zs', rfl, pz⟩ := perm_pull (f := fun z : Zr => z.1) pm
    have za' : ZsIn X.K G zs' := fun z m => za z (pz.mem_iff.mp m)
    have ra : ∀ {zs : List Zr}, ZsIn X.K G zs → RpAll X.K G ((zs.map (·.1)).map fun q => V.ref q.1) (zs.map (·.2)) := by
      intro zs
      induction zs with
      | nil => intro _; exact .nil
      | cons z zs ih => intro h; exact .cons (h z List.mem_cons_self).1 (ih fun y m => h y (List.mem_cons_of_mem _ m))
    have pw2 : (zs'.map (·.2)).Pairwise (fun x y => ltN (prOf y) (prOf x) = false) := by
      refine List.pairwise_map.mpr (List.Pairwise.imp_of_mem (fun {a b} ha hb h => ?_) (List.pairwise_map.mp pw))
      have ea := kf_at a (pz.mem_iff.mp ha)
      have eb := kf_at b (pz.mem_iff.mp hb)
      rw [(za' a ha).2.2] at ea
      rw [(za' b hb).2.2] at eb
      rw [nkeys_inj ea, nkeys_inj eb]
      exact h
    exact newF g (q _ (pz.map (·.2)) pw2) np (.lst (ra za'))
theorem se_sorted_set {a : Expr} {ma : ME} {pos p : Pos} (hK : X.K = K) (hc : X.calm = true) (hg : Gl X "sorted") (hm : X.mg "sorted" = none) (ha : SE K (fN X.prog X.w K) X a ma) (hs : starEach [a] X.env = [(false, eval a X.env)] := by rfl) (hpl : (backTo pos (starEach [] X.env)).any (·.1) = false := by rfl) :
    SE K (fF K) X (.Call (.Name "sorted" p) [a] [] pos) (mUn oSorted_pairs ma) := by
  subst hK
  refine ⟨mo_un mo_sortedP ha.mono, pe_weak (pe_callB (callr_sortedNs hc) hg hm (by decide +kernel) (pa_cons ha.pe pa_nil hs) (by decide) (by decide) hs hpl) fun σ H Q h => ?_⟩
  obtain ⟨G, ρ, R, h⟩ := h
  refine ⟨G, ρ, R, ha.mono ρ _ _ (fun da ρ1 q y G1 H1 R1 l1 ry => ?_) h⟩
  obtain ⟨p, zs, rfl, hp, rfl, za⟩ := ry
  refine ⟨_, G1, zs, rfl, R1.gh, ⟨p, rfl, hp⟩, za, mo_sortedP _ _ _ (fun d q v G2 H2 gh st pv => ?_) q⟩
  exact q v G2 H2 (R1.pure st gh) (l1.trans (.pure st)) (embF σ ρ ρ1 G H G1 H1 G2 H2 v d R1 l1 pv)
end
end Dl

set_option Elab.async false
set_option linter.all false
set_option maxRecDepth 100000
set_option maxHeartbeats 4000000
/-! Defs that hand back a new list on more than one road; isinstance(l, list); {k: v, k2: v2}; sorted pairs of texts. -/
namespace Dl
open PySem PySem.Spec PyProof.Rows L2 Br
/-! ### a def whose list is its caller's own, handed back early or late, made at the end or before -/
def tSG (K : PySem.W.Frag) (m : MS) : TS := fun T σ H => ∃ G ρ E, Rel K σ G H ρ ∧ m E ρ ∧ ∀ v d σ' G' H' ρ', Rel K σ' G' H' ρ' → Lk 0 σ G H ρ σ' G' H' ρ' → (∃ p o, v = .ref p ∧ (H p = none ∨ Ow σ ρ p) ∧ H' p = some o ∧ G' p = none ∧ ObR K G' o d) → E.rt d ρ' → T.rt v H'
structure SBG (K : PySem.W.Frag) (X : Cx) (sts : List Stmt) (m : MS) : Prop where
  mono : ∀ (ρ : Cs) (E E' : Dn), (∀ d ρ', E.rt d ρ' → E'.rt d ρ') → m E ρ → m E' ρ
  ps : PSs X sts (tSG K m)
section
variable {K : PySem.W.Frag} {X : Cx} {st : Stmt} {sts a : List Stmt} {ms mu ma mb : MS} {e c : Expr} {m : ME} {tm : MT} {pos : Pos}
theorem sbg_ret (h : SE K (fF K) X e m) : SBG K X [.Return (some e) pos] (sRet m) :=
  ⟨fun ρ E E' w => h.mono ρ _ _ w, pss_weak (pss_one (ps_ret h.pe)) fun T σ H ⟨G, ρ, E, R, q, b⟩ => ⟨G, ρ, R, h.mono ρ _ _ (fun d ρ1 q v G1 H1 R1 l r => b v d σ G1 H1 ρ1 R1 l (by
    obtain ⟨p, o, e1, h0, _, hp, gp, ob⟩ := r
    exact ⟨p, o, e1, .inl h0, hp, gp, ob⟩) q) q⟩⟩
/-- a list of one's own handed back -/
def sRetO (i : Nat) : MS := fun E ρ => match ρ[i]? with
  | some (.own d) => E.rt d ρ
  | _ => False
theorem sbg_own {i : Nat} (h : PE X e (tVar i)) : SBG K X [.Return (some e) pos] (sRetO i) := by
  refine ⟨fun ρ E E' w q => ?_, pss_weak (pss_one (ps_ret h)) fun T σ H ⟨G, ρ, E, R, q, b⟩ => ?_⟩
  · unfold sRetO at q ⊢
    split at q
    · exact w _ _ q
    · exact q.elim
  · unfold sRetO at q
    split at q
    · rename_i d e1
      obtain ⟨p, o, hv, hp, gp, ob⟩ := R.own i d e1
      exact ⟨_, hv, b _ d σ G H ρ R .refl ⟨p, o, rfl, .inr ⟨i, d, e1, hv⟩, hp, gp, ob⟩ q⟩
    · exact q.elim
theorem sbg_cons (h : SS K 0 X st ms) (g : SBG K X sts mu) : SBG K X (st :: sts) (sSeqF ms mu) := by
  refine ⟨fun ρ E E' w => h.mono ρ _ _ (fun ρ1 => g.mono ρ1 _ _ w) (fun _ _ z => z) (fun _ z => z) (fun _ z => z), pss_weak (pss_cons h.ps g.ps) fun T σ H ⟨G, ρ, E, R, q, b⟩ => ?_⟩
  refine ⟨G, ρ, _, R, q, fun σ1 G1 H1 ρ1 R1 l1 q1 => ⟨G1, ρ1, E, R1, q1, fun v d σ2 G2 H2 ρ2 R2 l2 f => b v d σ2 G2 H2 ρ2 R2 (l1.trans l2) ?_⟩, fun _ _ _ _ _ _ _ _ _ z => z.elim, fun _ _ _ _ _ _ z => z.elim, fun _ _ _ _ _ _ z => z.elim⟩
  obtain ⟨p, o, e, h0, r⟩ := f
  refine ⟨p, o, e, ?_, r⟩
  rcases h0 with h0 | w
  · exact .inl (l1.st.dom p h0)
  · exact (l1.sb p w).symm
/-- a road that ends early -/
def sIfF (tm : MT) (ma mb : MS) : MS := fun E ρ => tm ρ fun b ρ1 => if b = true then ma E ρ1 else mb E ρ1
theorem sbg_if (hc : ST K X c tm) (ha : SBG K X a ma) (hb : SBG K X sts mb) : SBG K X (.If c a [] pos :: sts) (sIfF tm ma mb) := by
  refine ⟨fun ρ E E' w => hc.mono ρ _ _ fun b ρ1 q => ?_, pss_weak (pss_cons (ps_if hc.pt ha.ps pss_nil) hb.ps) fun T σ H ⟨G, ρ, E, R, q, f⟩ => ⟨G, ρ, R, hc.mono ρ _ _ (fun b ρ1 q G1 H1 R1 l => ?_) q⟩⟩
  · cases b
    · exact hb.mono ρ1 _ _ w q
    · exact ha.mono ρ1 _ _ w q
  · have up : ∀ {p : Addr}, (H1 p = none ∨ Ow σ ρ1 p) → (H p = none ∨ Ow σ ρ p) := fun {p} z => z.elim (fun h0 => .inl (l.st.dom p h0)) fun w => (l.sb p w).symm
    cases b
    · exact ⟨G1, ρ1, E, R1, q, fun v d σ2 G2 H2 ρ2 R2 l2 ⟨p, o, e1, h0, r⟩ => f v d σ2 G2 H2 ρ2 R2 (l.trans l2) ⟨p, o, e1, up h0, r⟩⟩
    · exact ⟨G1, ρ1, E, R1, q, fun v d σ2 G2 H2 ρ2 R2 l2 ⟨p, o, e1, h0, r⟩ => f v d σ2 G2 H2 ρ2 R2 (l.trans l2) ⟨p, o, e1, up h0, r⟩⟩
end
section
variable {P : Program} {w : World} {K : PySem.W.Frag} {mg : Str → Option Value} {base : Heap} {k : Nat} {f : Addr} {fd : FuncData} {ps : List Str}
theorem fn_ofG {x qual : Str} {st : Stmt} {N : List Str} {np m : Nat} {b : MS} (Fu : Fun K x qual st f fd) (S : FnScope N ps (defScope st)) (hp : ps.length = np) (hm : N.length - ps.length = m)
    (body : ∀ (cdv : Value) (Ar : Around) (out : List PySem.Env) (s0 : Shared) (H : Hp) (E : XK), Bare Ar → Room k (Ar.deeper (envOfC qual (defScope st) s0.heap.objs.size f cdv)) →
      SBG K (cxOf CX0 P w K mg base N qual (defScope st) f cdv Ar out s0 H E).nox (defBody st) b) : FnF P w K mg base (k + 1) f fd ps (FofF np m b) := by
  subst hp hm
  refine ⟨okG Fu S (fun vs H Q E h => h.1) fun cdv Ar out s0 H vs Q E hG hr hsp => ?_, fun ds k k' w h => ?_, fun ds k h => h.1⟩
  · obtain ⟨hl, G, ds, g, r, hd, k0, w0, q⟩ := hsp
    have sb := body cdv Ar out s0 H E hG hr
    have R0 := (rel_fro g r).more (N.length - ps.length)
    have e0 : vs.map some ++ List.replicate (N.length - ps.length) none = L2.start N vs := by unfold L2.start; rw [hl]
    have nu : ∀ (i : Nat) (d : D), (List.replicate (N.length - ps.length) Cell.un)[i]? ≠ some (.own d) := fun i d z => by
      rw [List.getElem?_replicate] at z
      split at z <;> cases z
    rw [e0] at R0
    have no : ∀ p, ¬ Ow (L2.start N vs) (ds.map .fro ++ List.replicate (N.length - ps.length) .un) p := fun p => by rw [← e0]; exact ow_fro nu
    refine ⟨_, sb.ps, G, _, _, R0, q, fun v d σ' G' H' ρ' R' l f hk => ?_⟩
    obtain ⟨p, o, ev, h0, hp, gp, ob⟩ := f
    exact w0 d hk v G' H' R'.gh ⟨l.st.gg, fun a u _ z => l.st.hh a u (no a) z, fun a u _ z => l.st.fr a u (no a) z, l.st.dom⟩ ⟨p, o, ev, h0.resolve_right (no p), hp, gp, ob⟩
  · obtain ⟨h1, k0, h2, h3⟩ := h
    exact ⟨h1, k0, fun d z => w d (h2 d z), h3⟩
end
section
variable {K : PySem.W.Frag} {X : Cx} {a b c e : Expr} {ma mb mc me : ME} {pos : Pos}
/-! ### {k: v, k2: v2} -/
def mDisp2 (ma mb mc me : ME) : ME := fun ρ k => ma ρ fun da ρ1 => mb ρ1 fun db ρ2 => mc ρ2 fun dc ρ3 => me ρ3 fun de ρ4 => match keyOf da, keyOf dc with
  | some q, some r => q ≠ r ∧ k (.dict [(keyD q, db), (keyD r, de)]) ρ4
  | _, _ => False
theorem se_disp2 (ha : SE K (fE K) X a ma) (hb : SE K (fE K) X b mb) (hc : SE K (fE K) X c mc) (he : SE K (fE K) X e me) : SE K (fF K) X (.Dict [some a, some c] [b, e] pos) (mDisp2 ma mb mc me) := by
  constructor
  · intro ρ k k' w
    refine ha.mono ρ _ _ fun da ρ1 => hb.mono ρ1 _ _ fun db ρ2 => hc.mono ρ2 _ _ fun dc ρ3 => he.mono ρ3 _ _ fun de ρ4 q => ?_
    split at q
    · exact ⟨q.1, w _ _ q.2⟩
    · exact q.elim
  · refine pe_weak (pe_disp (pps_cons ha.pe hb.pe (pps_cons hc.pe he.pe pps_nil)) rfl rfl (by simp) (by simp)) fun σ H Q ⟨G, ρ, R, q⟩ p np => ?_
    have gp : G p = none := R.gh.free np
    have nw : ¬ Ow σ ρ p := fun w => R.old w np
    have R0 := R.poke (o := .dK []) gp nw
    have l0 : Lk 0 σ G H ρ σ G (upd H p (.dK [])) ρ := Lk.refl.poke np
    refine ⟨G, ρ, R0, ha.mono ρ _ _ (fun da ρ1 q x G1 H1 R1 l1 rx => ⟨G1, ρ1, R1, hb.mono ρ1 _ _ (fun db ρ2 q y G2 H2 R2 l2 ry => ⟨G2, ρ2, R2, hc.mono ρ2 _ _ (fun dc ρ3 q x2 G3 H3 R3 l3 rx2 => ⟨G3, ρ3, R3, he.mono ρ3 _ _ (fun de ρ4 q y2 G4 H4 R4 l4 ry2 => ?_) q⟩) q⟩) q⟩) q⟩
    have l14 := ((l1.trans l2).trans l3).trans l4
    have hp4 : H4 p = some (.dK []) := l14.st.hh p _ nw upd_same
    have gp4 : G4 p = none := l14.st.fr p _ nw upd_same gp rfl
    have nw4 : ¬ Ow σ ρ4 p := fun w => by
      rcases l14.sb p w with z | z
      · exact nw z
      · rw [upd_same] at z; cases z
    split at q
    · rename_i k1 k2 e1 e2
      obtain ⟨ne, q⟩ := q
      rw [keyOf_inv e1] at rx
      rw [keyOf_inv e2] at rx2
      have ex := key_val (H := H1) (.fro rx)
      have ex2 := key_val (H := H3) (.fro rx2)
      subst ex
      subst ex2
      have em : mergeK [] [(k1, y), (k2, y2)] = [(k1, y), (k2, y2)] := by
        show putK (putK [] k1 y) k2 y2 = _
        unfold putK
        simp [ne]
      refine ⟨hp4, [(k1, y), (k2, y2)], rfl, by simp, ?_⟩
      rw [em]
      refine q _ G4 _ (R4.poke gp4 nw4) ((l0.trans l14).poke np) ⟨p, _, rfl, np, nw4, upd_same, gp4, ?_⟩
      exact .dK (ks := [k1, k2]) (xs := [y, y2]) (ds := [db, de]) rfl (.cons (rp_same (l3.trans l4).st.gg ry) (.cons ry2 .nil))
    · exact q.elim
/-! ### isinstance(l, list) of a list of one's own -/
def mIsList (i : Nat) : ME := fun ρ k => match ρ[i]? with
  | some (.own (.list _)) => k (.bool true) ρ
  | _ => False
theorem se_islist {i : Nat} {a : Expr} {p p2 pos : Pos} (hK : X.K = K) (hg : Gl X "isinstance") (hm : X.mg "isinstance" = none) (hg2 : Gl X "list") (hm2 : X.mg "list" = none) (ha : PE X a (tVar i)) (hs : starEach [a, .Name "list" p2] X.env = [(false, eval a X.env), (false, eval (.Name "list" p2) X.env)] := by rfl) (hs2 : starEach [.Name "list" p2] X.env = [(false, eval (.Name "list" p2) X.env)] := by rfl) (hpl : (backTo pos (starEach [.Name "list" p2] X.env)).any (·.1) = false := by rfl) :
    SE K (fE K) X (.Call (.Name "isinstance" p) [a, .Name "list" p2] [] pos) (mIsList i) := by
  subst hK
  refine ⟨fun ρ k k' w q => ?_, pe_weak (pe_callB call_isi hg hm (by decide +kernel) (pa_cons ha (pa_cons (pe_bltn (v := .ty "list") hg2 hm2 (by decide +kernel) rfl) pa_nil hs2) hs) (by decide) (by decide) hs hpl) fun σ H Q ⟨G, ρ, R, q⟩ => ?_⟩
  · unfold mIsList at q ⊢
    split at q
    · exact w _ _ q
    · exact q.elim
  · unfold mIsList at q
    split at q
    · rename_i ps e
      obtain ⟨p, o, hv, hp, gp, ob⟩ := R.own i _ e
      have fin : Q (.bl true) H := q _ G H R .refl (.bl true)
      cases ob with
      | lst l => exact ⟨_, hv, ⟨_, .ty "list", .type "list", .type "list", true, rfl, .ty "list", .base (.lst hp), rfl, fin⟩⟩
    · exact q.elim
end
end Dl

set_option Elab.async false
set_option linter.all false
set_option maxRecDepth 100000
set_option maxHeartbeats 4000000
/-! sorted(l), l a list of pairs of texts. -/
namespace Dl
open PySem PySem.Spec PyProof.Rows L2 Br
def tkeys (n : Str × Str) : List Key := [.inr n.1, .inr n.2]
def ltT (x y : Str × Str) : Bool := lexK (tkeys x) (tkeys y)
def TtAt (K : PySem.W.Frag) (H : Hp) (v : V) (n : Str × Str) : Prop := ∃ b, v = .ref b ∧ SqT K H b ((tkeys n).map kV)
def rawT (n : Str × Str) : List (Int ⊕ List Nat) := [.inr n.1.cps.toList, .inr n.2.cps.toList]
theorem txt_lt (x y : Str) : decide (x.cps.toList < y.cps.toList) = ltKey (.inr x) (.inr y) := rfl
theorem txt_tri {x y : Str} (e : x ≠ y) (h : ¬ x.cps.toList < y.cps.toList) : y.cps.toList < x.cps.toList := by
  rcases Std.le_iff_lt_or_eq.mp (List.not_lt.mp h) with z | z
  · exact z
  · exact absurd (str_ext z.symm) e
theorem rawT_lt (x y : Str × Str) : (listOrd itemOrd).blt (rawT x) (rawT y) = ltT x y := by
  obtain ⟨x, n⟩ := x
  obtain ⟨y, m⟩ := y
  show (decide (x.cps.toList < y.cps.toList) || (!decide (y.cps.toList < x.cps.toList) && (decide (n.cps.toList < m.cps.toList) || (!decide (m.cps.toList < n.cps.toList) && false)))) = (if (Sum.inr x : Key) = Sum.inr y then (if (Sum.inr n : Key) = Sum.inr m then false else decide (n.cps.toList < m.cps.toList)) else decide (x.cps.toList < y.cps.toList))
  have irr : ∀ z : Str, decide (z.cps.toList < z.cps.toList) = false := fun z => decide_eq_false (List.lt_irrefl _)
  rw [Bool.and_false, Bool.or_false]
  by_cases e : x = y
  · subst e
    rw [if_pos rfl, irr]
    by_cases k : n = m
    · subst k
      rw [if_pos rfl, irr]; rfl
    · rw [if_neg (fun z => k (Sum.inr.inj z))]; rfl
  · rw [if_neg (fun z => e (Sum.inr.inj z))]
    by_cases h : x.cps.toList < y.cps.toList
    · rw [decide_eq_true h]; rfl
    · rw [decide_eq_false h, decide_eq_true (txt_tri e h)]; rfl
section
variable {X : Cx}
def rSortedTT (K : PySem.W.Frag) : List V → Hp → VK → Prop := fun vs H Q => ∃ (a : Addr) (us : List V) (kf : V → Str × Str), vs = [.ref a] ∧ SqL K H a us ∧ (∀ u ∈ us, TtAt K H u (kf u)) ∧
  ∀ us' p, us'.Perm us → us'.Pairwise (fun x y => ltT (kf y) (kf x) = false) → H p = none → Q (.ref p) (upd H p (.lst us'))
theorem cr_sortedTT : CallR X (.builtin "sorted") (rSortedTT X.K) := by
  intro pins s σ H vs ws Q I r h
  obtain ⟨a, us, kf, rfl, hs, hx, q⟩ := h
  obtain ⟨its, rv, hl, hz⟩ := I.list hs
  obtain ⟨u, rfl, ru⟩ := vals1 r
  cases (show u = Value.ref a from ru)
  obtain ⟨e1, e2⟩ := refs_back rv fun x m => (hx x m).imp fun t z => z.1
  have look : ∀ v ∈ its, ∃ t o t1 t2 n, v = .ref t ∧ s.heap.get? t = some o ∧ o.cls = .type "tuple" ∧ o.data = .seq #[.str (kf (backV v)).1 t1, .str (kf (backV v)).2 t2] n := by
    intro v hv
    obtain ⟨t, rfl⟩ := e2 v hv
    obtain ⟨b, eb, hb⟩ := hx (.ref t) (by rw [e1]; exact List.mem_map.mpr ⟨_, hv, rfl⟩)
    cases eb
    obtain ⟨its2, r2, ⟨o, ho, hc, n, hd⟩, _⟩ := I.tuple hb
    obtain ⟨u1, u2, rfl, ⟨t1, rfl⟩, ⟨t2, rfl⟩⟩ := vals2 r2
    exact ⟨t, o, t1, t2, n, rfl, ho, hc, hd⟩
  let shape : Nat → Bool := fun _ => true
  obtain ⟨fs, ht⟩ : ∃ fs, TupsOf s.heap shape its fs := tups_of fun v hv => by
    obtain ⟨t, o, t1, t2, n, rfl, ho, hc, hd⟩ := look v hv
    exact ⟨_, t, o, _, n, rfl, ho, hc, hd, rfl, fun z => (by cases z), fun _ => ⟨_, _, rfl⟩⟩
  have key : ∀ v ∈ its, G.tupKeyC s.heap shape v = some (rawT (kf (backV v))) := fun v hv => by
    obtain ⟨t, o, t1, t2, n, rfl, ho, hc, hd⟩ := look v hv
    unfold G.tupKeyC
    have it : G.isTupObj s.heap (.ref t) = true := by
      unfold G.isTupObj
      simp [ho, hc]
    rw [if_pos it]
    unfold tupKey
    simp only [ho, hd]
    rfl
  refine G.sorted_tups hl.isList ht (fun v hv => ⟨_, key v hv⟩) (by rw [← rv.length]; exact hz) fun st' hp hso _ => ?_
  have zz : (pairsOf its).toList = its.zip its := pairsOf_toList its
  have hpl : (arrOf st').toList.Perm (its.zip its) := by rw [← zz]; exact hp.toList
  have own : ∀ p ∈ (arrOf st').toList, p.1 = p.2 ∧ p.1 ∈ its := fun p hm => mem_zip_self (hpl.mem_iff.mp hm)
  have sz : (arrOf st').size = its.length := by
    have := hpl.length_eq
    rw [Array.length_toList, List.length_zip] at this
    omega
  have outp : ((arrOf st').toList.map (·.2)).Perm its := by
    have z := hpl.map (·.2)
    rwa [List.map_snd_zip (Nat.le_refl _)] at z
  have oute : ((arrOf st').map (·.2)).toList = (arrOf st').toList.map (·.2) := Array.toList_map
  have h3 : ∀ u ∈ (arrOf st').toList.map (·.2), ∃ a, u = Value.ref a := fun u hu => e2 u (outp.mem_iff.mp hu)
  obtain ⟨e, hn⟩ := sortedAll_at s.heap its ((arrOf st').map (·.2))
  have fresh : s.heap.objs.size ≤ s.heap.objs.size + 1 := Nat.le_succ _
  have lenO : ((arrOf st').toList.map (·.2)).length = us.length := by rw [outp.length_eq, ← rv.length]
  refine ⟨.ref (s.heap.objs.size + 1), upd H (s.heap.objs.size + 1) (.lst (((arrOf st').toList.map (·.2)).map backV)), I.laid (t' := s.toks) (fun b o z => sortedAll_old z) fresh ⟨?_, (arrOf st').toList.map (·.2), e, vals_back h3, ?_⟩, rfl, q _ _ ?_ ?_ (I.hok.fresh fresh)⟩
  · rw [List.length_map, lenO]; exact hz
  · rw [hn, ← oute, Array.toArray_toList]
  · rw [e1]; exact outp.map backV
  · rw [List.pairwise_iff_getElem]
    intro i j hi hj hij
    have hi' : i < (arrOf st').size := by
      rw [List.length_map, List.length_map, Array.length_toList] at hi
      exact hi
    have hj' : j < (arrOf st').size := by
      rw [List.length_map, List.length_map, Array.length_toList] at hj
      exact hj
    have kk : ∀ n (hn : n < (arrOf st').size), KK (G.tupKindC s.heap shape) (arrOf st') n = rawT (kf (backV ((arrOf st')[n]).2)) := fun n hn => by
      have m : (arrOf st')[n] ∈ (arrOf st').toList := by
        rw [← Array.getElem_toList]
        exact List.getElem_mem _
      obtain ⟨o1, o2⟩ := own _ m
      unfold KK
      rw [Array.getElem?_eq_getElem hn]
      show (G.tupKeyC s.heap shape ((arrOf st')[n]).1).getD [] = _
      rw [key _ o2, ← o1]
      rfl
    have z := hso i j (Nat.le_of_lt hij) (by
      have : (pairsOf its).size = its.length := by rw [← Array.length_toList, zz, List.length_zip]; omega
      omega)
    rw [kk i hi', kk j hj'] at z
    have z' : (listOrd itemOrd).blt (rawT (kf (backV ((arrOf st')[j]).2))) (rawT (kf (backV ((arrOf st')[i]).2))) = false := z
    rw [rawT_lt] at z'
    simp only [List.getElem_map, Array.getElem_toList]
    exact z'
end
def isTT : D → Bool
  | .tuple _ [.str _, .str _] => true
  | _ => false
def ttOf : D → Str × Str
  | .tuple _ [.str x, .str y] => (x, y)
  | _ => (Str.empty, Str.empty)
section
variable {K : PySem.W.Frag} {X : Cx} {a : Expr} {ma : ME} {pos : Pos}
theorem isTT_at {d : D} (h : isTT d = true) : ∃ c x y, d = .tuple c [.str x, .str y] ∧ ttOf d = (x, y) := by
  unfold isTT at h
  split at h
  · exact ⟨_, _, _, rfl, rfl⟩
  · cases h
theorem tt_name {G H : Hp} (g : Same G H) {v : V} {d : D} (r : Rp K G v d) (h : isTT d = true) : TtAt K H v (ttOf d) := by
  obtain ⟨c, x, y, rfl, e⟩ := isTT_at h
  rw [e]
  obtain ⟨b, ys, rfl, sq, rr, _⟩ := rp_tup r
  obtain ⟨y, z, rfl, r1, r2⟩ := rps2 rr
  cases r1
  cases r2
  exact ⟨b, rfl, sqT_same g sq⟩
def oSorted_tt : O1 := fun a k => match a with
  | .list ds => ds.all isTT = true ∧ ∀ ds' : List D, ds'.Perm ds → ds'.Pairwise (fun x y => ltT (ttOf y) (ttOf x) = false) → k (.list ds')
  | _ => False
theorem mo_sortedTT : Mo1 oSorted_tt := fun a k k' w h => by cases a <;> first | exact h.elim | exact ⟨h.1, fun ds' p q => w _ (h.2 ds' p q)⟩
open Classical in
noncomputable def tnOf (K : PySem.W.Frag) (H : Hp) (v : V) : Str × Str := if h : ∃ n, TtAt K H v n then choose h else (Str.empty, Str.empty)
theorem tnOf_at {H : Hp} {v : V} {n : Str × Str} (h : TtAt K H v n) : TtAt K H v (tnOf K H v) := by
  unfold tnOf
  rw [dif_pos ⟨n, h⟩]
  exact Classical.choose_spec (⟨n, h⟩ : ∃ n, TtAt K H v n)
theorem tt_inj {pins : List (Addr × Obj)} {σ : L2.St} {H : Hp} {s : Shared} {v : V} {n m : Str × Str} (I : Inv X pins σ H s) (h : TtAt X.K H v n) (k : TtAt X.K H v m) : n = m := by
  obtain ⟨b, rfl, h⟩ := h
  obtain ⟨c, e, k⟩ := k
  cases e
  have := kVs_inj (I.tuple_inj h k)
  unfold tkeys at this
  cases n
  cases m
  simp at this
  rw [this.1, this.2]
theorem callr_sortedTT : CallR X (.builtin "sorted") (fun xs H Q => ∃ x, xs = [x] ∧ rO1 X.K (pF X.K) oSorted_tt x H Q) := by
  intro pins s σ H xs us Q I r h
  obtain ⟨x, rfl, G, d, g, hx, q⟩ := h
  cases d <;> first | exact q.elim | skip
  rename_i ds
  obtain ⟨p, vs, rfl, rd, ra⟩ := vw_list g hx
  obtain ⟨hall, q⟩ := q
  have nm : ∀ {vs : List V} {ds : List D}, RpAll X.K G vs ds → ds.all isTT = true → ∀ u ∈ vs, ∃ n, TtAt X.K H u n := by
    intro vs
    induction vs with
    | nil => intro ds _ _ u hu; cases hu
    | cons v vs ih =>
      intro ds r h u hu
      cases r with
      | cons r1 r2 =>
        rw [List.all_cons, Bool.and_eq_true] at h
        rcases List.mem_cons.mp hu with z | z
        · subst z; exact ⟨_, tt_name g r1 h.1⟩
        · exact ih r2 h.2 u z
  refine cr_sortedTT pins s σ H _ us Q I r ⟨p, vs, tnOf X.K H, rfl, .inl rd, fun u hu => ?_, fun us' n pm pw nn => ?_⟩
  · obtain ⟨m, hm⟩ := nm ra hall u hu
    exact tnOf_at hm
  · obtain ⟨ds', pd, rs'⟩ := perm_rps pm ra
    have hall' : ds'.all isTT = true := List.all_eq_true.mpr fun d hd => List.all_eq_true.mp hall d (pd.mem_iff.mp hd)
    have mp : ∀ {vs : List V} {ds : List D}, RpAll X.K G vs ds → ds.all isTT = true → ds.map ttOf = vs.map (tnOf X.K H) := by
      intro vs
      induction vs with
      | nil => intro ds r _; cases r; rfl
      | cons v vs ih =>
        intro ds r h
        cases r with
        | cons r1 r2 =>
          rw [List.all_cons, Bool.and_eq_true] at h
          have e := tt_name g r1 h.1
          rw [List.map_cons, List.map_cons, ih r2 h.2, tt_inj I e (tnOf_at e)]
    have em := mp rs' hall'
    have pw1 : (us'.map (tnOf X.K H)).Pairwise (fun x y => ltT y x = false) := List.pairwise_map.mpr pw
    rw [← em] at pw1
    exact newF g (q ds' pd (List.pairwise_map.mp pw1)) nn (.lst rs')
theorem se_sorted_tt {k : Nat} {p : Pos} (hK : X.K = K) (hr : Room k X.A) (hg : Gl X "sorted") (hm : X.mg "sorted" = none) (ha : SE K (fV K) X a ma) (hs : starEach [a] X.env = [(false, eval a X.env)] := by rfl) (hpl : (backTo pos (starEach [] X.env)).any (·.1) = false := by rfl) :
    SE K (fF K) X (.Call (.Name "sorted" p) [a] [] pos) (mUn oSorted_tt ma) := by
  subst hK
  exact se_b1 (id := "sorted") callr_sortedTT (fun y H Q h => ⟨y, rfl, h⟩) mo_sortedTT embF hg hm (by decide +kernel) ha hs (by decide) (by decide) hpl
end
end Dl

/-! A def that hands back a list of the caller's own, called by the names of what it takes. -/
set_option Elab.async false
set_option linter.all false
set_option maxRecDepth 100000
set_option maxHeartbeats 4000000
namespace Dl
open PySem PySem.Spec PyProof.Rows L2 Br
section
variable {K : PySem.W.Frag} {X : Cx}
def mCallKF (F : Ff) (is : List Nat) (ma : MA) : ME := fun ρ k => ma ρ fun ds ρ1 => ds.length = is.length ∧ F (perm is ds) fun d => k d ρ1
theorem se_callKF {F : Ff} {k j : Nat} {f : Addr} {fd : FuncData} {ps ks : List Str} {is : List Nat} {x : Str} {p pos : Pos} {kws : List Keyword} {ma : MA} (Fn : FnF X.prog X.w K X.mg X.base j f fd ps F) (hK : X.K = K) (hG : Bare X.A) (hr : Room k X.A) (hj : j ≤ k) (hg : Gl X x) (hm : X.mg x = some (.ref f)) (hk : PySem.W.keepIn K (.ref f) = true)
    (hb : ∀ (s : Shared) (ws : List Value), ws.length = ps.length → BindsTo s fd ⟨[], ks.zip ws⟩ (ps.zip (perm is ws))) (hil : is.length = ps.length) (hkw : SK K X kws ma) (hall : (backToKw pos (keywordEach kws X.env)).all (·.1.isSome) = true := by rfl) (hks : (backToKw pos (keywordEach kws X.env)).filterMap (·.1) = ks := by rfl)
    (hdb : (x == ("__debug__" : Str)) = false := by decide) (hpl : ((backTo pos (starEach [] X.env)).any (·.1) || (backToKw pos (keywordEach kws X.env)).any (·.1.isNone)) = false := by rfl) :
    SE K (fF K) X (.Call (.Name x p) [] kws pos) (mCallKF F is ma) := by
  subst hK
  refine ⟨fun ρ k k' w => hkw.mono ρ _ _ fun ds ρ1 q => ⟨q.1, Fn.mo _ _ _ (fun d => w _ _) q.2⟩, ⟨fun pins s σ H Q I ⟨G, ρ, R, q⟩ => ?_⟩⟩
  refine wpAny_Call_Name_kw (ld_glob I hg hm ?_ hdb)
  refine PySem.W.callWith_KW0 (h₀ := X.base) I.ok.mod.kin hk hall (thn (hkw.pk.run pos pins s σ H (fun zs H1 => ∃ G1 ds ρ1, Rel X.K σ G1 H1 ρ1 ∧ Lk 0 σ G H ρ σ G1 H1 ρ1 ∧ RpAll X.K G1 zs ds ∧ ds.length = is.length ∧ F (perm is ds) fun d => ∀ v G' H', Rel X.K σ G' H' ρ1 → Lk 0 σ G H ρ σ G' H' ρ1 → fF X.K H σ ρ1 G' H' v d → Q v H') I ⟨G, ρ, R, hkw.mono ρ _ _ (fun ds ρ1 q vs G1 H1 R1 l1 rs => ⟨G1, ds, ρ1, R1, l1, rs, q.1, q.2⟩) q⟩) fun ws s1 hh => ?_) hpl
  obtain ⟨zs, H1, I1, r, G1, ds, ρ1, R1, l1, rs, hl, q⟩ := hh
  refine ⟨I1.kIn, ?_⟩
  rw [hks]
  have hwl : ws.length = ps.length := by rw [← r.length, rps_len rs, hl, hil]
  refine run_g Fn.ok hG (hr.mono hj) (E := fun _ _ _ => False) pass0 I1 (hb s1 ws hwl) (vals_perm r is) ?_
  have rp := rps_perm rs is
  refine ⟨by rw [rps_len rp]; exact Fn.ln _ _ q, G1, perm is ds, R1.gh, rp, Fn.mo _ _ _ (fun d q v G2 H2 gh st pv => ?_) q⟩
  exact q v G2 H2 (R1.pure st gh) (l1.trans (.pure st)) (embF σ ρ ρ1 G H G1 H1 G2 H2 v d R1 l1 pv)
end
end Dl

set_option Elab.async false
set_option linter.all false
set_option maxRecDepth 100000
set_option maxHeartbeats 4000000
namespace K20
open PySem PySem.Spec PyProof.Rows L2 Br Dl
def top (i : Nat) : Stmt := PySem.Challenge.pw_branchedhall_k20_leave_asked_by_names.main.body.getD i (.Pass ⟨0, 0, 0, 0⟩)
abbrev s_house_of : Stmt := top 1
theorem sc_house_of : FnScope ["person"] ["person"] (defScope s_house_of) := ⟨rfl, rfl, rfl, by decide +kernel, rfl, by decide +kernel, by decide +kernel⟩
abbrev s_body_for : Stmt := top 15
theorem sc_body_for : FnScope ["hall", "state", "key", "otherwise"] ["hall", "state", "key", "otherwise"] (defScope s_body_for) := ⟨rfl, rfl, rfl, by decide +kernel, rfl, by decide +kernel, by decide +kernel⟩
abbrev s_who_began : Stmt := top 16
theorem sc_who_began : FnScope ["hall", "state"] ["hall", "state"] (defScope s_who_began) := ⟨rfl, rfl, rfl, by decide +kernel, rfl, by decide +kernel, by decide +kernel⟩
abbrev s_people_by : Stmt := top 17
theorem sc_people_by : FnScope ["body"] ["body"] (defScope s_people_by) := ⟨rfl, rfl, rfl, by decide +kernel, rfl, by decide +kernel, by decide +kernel⟩
abbrev s_people_in : Stmt := top 18
theorem sc_people_in : FnScope ["hall", "state"] ["hall", "state"] (defScope s_people_in) := ⟨rfl, rfl, rfl, by decide +kernel, rfl, by decide +kernel, by decide +kernel⟩
abbrev s_wanted_by : Stmt := top 19
theorem sc_wanted_by : FnScope ["body", "word", "other", "rank"] ["body", "word"] (defScope s_wanted_by) := ⟨rfl, rfl, rfl, by decide +kernel, rfl, by decide +kernel, by decide +kernel⟩
abbrev s_rank_in : Stmt := top 20
theorem sc_rank_in : FnScope ["hall", "state", "person"] ["hall", "state", "person"] (defScope s_rank_in) := ⟨rfl, rfl, rfl, by decide +kernel, rfl, by decide +kernel, by decide +kernel⟩
abbrev s_wanted_in : Stmt := top 21
theorem sc_wanted_in : FnScope ["hall", "state", "word"] ["hall", "state", "word"] (defScope s_wanted_in) := ⟨rfl, rfl, rfl, by decide +kernel, rfl, by decide +kernel, by decide +kernel⟩
abbrev s_seat_in : Stmt := top 22
theorem sc_seat_in : FnScope ["hall", "state", "person", "key"] ["hall", "state", "person"] (defScope s_seat_in) := ⟨rfl, rfl, rfl, by decide +kernel, rfl, by decide +kernel, by decide +kernel⟩
abbrev s_door_in : Stmt := top 23
theorem sc_door_in : FnScope ["hall", "state"] ["hall", "state"] (defScope s_door_in) := ⟨rfl, rfl, rfl, by decide +kernel, rfl, by decide +kernel, by decide +kernel⟩
abbrev s_keys_for : Stmt := top 27
theorem sc_keys_for : FnScope ["kind", "who", "about", "body", "keys"] ["kind", "who", "about", "body"] (defScope s_keys_for) := ⟨rfl, rfl, rfl, by decide +kernel, rfl, by decide +kernel, by decide +kernel⟩
abbrev s_leave_for : Stmt := top 28
theorem sc_leave_for : FnScope ["state", "kind", "who", "about", "body", "key"] ["state", "kind", "who", "about", "body"] (defScope s_leave_for) := ⟨rfl, rfl, rfl, by decide +kernel, rfl, by decide +kernel, by decide +kernel⟩
abbrev s_bar_less : Stmt := top 29
theorem sc_bar_less : FnScope ["hall", "state", "who", "word", "wanted"] ["hall", "state", "who", "word"] (defScope s_bar_less) := ⟨rfl, rfl, rfl, by decide +kernel, rfl, by decide +kernel, by decide +kernel⟩
abbrev s_bar_coming : Stmt := top 30
theorem sc_bar_coming : FnScope ["hall", "state", "who", "about", "seat"] ["hall", "state", "who", "about"] (defScope s_bar_coming) := ⟨rfl, rfl, rfl, by decide +kernel, rfl, by decide +kernel, by decide +kernel⟩
abbrev s_bar_calling : Stmt := top 31
theorem sc_bar_calling : FnScope ["hall", "state", "who", "about", "seat"] ["hall", "state", "who", "about"] (defScope s_bar_calling) := ⟨rfl, rfl, rfl, by decide +kernel, rfl, by decide +kernel, by decide +kernel⟩
abbrev s_bar_putting : Stmt := top 32
theorem sc_bar_putting : FnScope ["hall", "state", "who", "about", "word", "rule"] ["hall", "state", "who", "about", "word"] (defScope s_bar_putting) := ⟨rfl, rfl, rfl, by decide +kernel, rfl, by decide +kernel, by decide +kernel⟩
abbrev s_bar_seat : Stmt := top 33
theorem sc_bar_seat : FnScope ["hall", "state", "who", "about", "body", "seat"] ["hall", "state", "who", "about", "body"] (defScope s_bar_seat) := ⟨rfl, rfl, rfl, by decide +kernel, rfl, by decide +kernel, by decide +kernel⟩
abbrev s_changes_above : Stmt := top 34
theorem sc_changes_above : FnScope ["elder", "newer", "own"] ["elder", "newer", "own"] (defScope s_changes_above) := ⟨rfl, rfl, rfl, by decide +kernel, rfl, by decide +kernel, by decide +kernel⟩
abbrev s_takes_from_equal : Stmt := top 35
theorem sc_takes_from_equal : FnScope ["elder", "newer", "own"] ["elder", "newer", "own"] (defScope s_takes_from_equal) := ⟨rfl, rfl, rfl, by decide +kernel, rfl, by decide +kernel, by decide +kernel⟩
abbrev s_bar_ranks : Stmt := top 36
theorem sc_bar_ranks : FnScope ["hall", "state", "who", "body", "elder", "newer", "own", "person", "ranks", "word"] ["hall", "state", "who", "body"] (defScope s_bar_ranks) := ⟨rfl, rfl, rfl, by decide +kernel, rfl, by decide +kernel, by decide +kernel⟩
abbrev s_bar_strike : Stmt := top 37
theorem sc_bar_strike : FnScope ["hall", "state", "who", "struck", "rules"] ["hall", "state", "who", "struck"] (defScope s_bar_strike) := ⟨rfl, rfl, rfl, by decide +kernel, rfl, by decide +kernel, by decide +kernel⟩
abbrev s_bar : Stmt := top 38
theorem sc_bar : FnScope ["hall", "state", "deed", "kind", "who", "about", "body"] ["hall", "state", "deed"] (defScope s_bar) := ⟨rfl, rfl, rfl, by decide +kernel, rfl, by decide +kernel, by decide +kernel⟩
abbrev s_law_pool : Stmt := top 40
theorem sc_law_pool : FnScope ["_law_script", "_law_k", "_law_cell", "_law_size", "_law_mixed"] ["_law_script", "_law_k"] (defScope s_law_pool) := ⟨rfl, rfl, rfl, by decide +kernel, rfl, by decide +kernel, by decide +kernel⟩
abbrev s_law_take : Stmt := top 41
theorem sc_law_take : FnScope ["_law_pool_here", "_law_many", "_law_found"] ["_law_pool_here", "_law_many"] (defScope s_law_take) := ⟨rfl, rfl, rfl, by decide +kernel, rfl, by decide +kernel, by decide +kernel⟩
abbrev s_law_letters : Stmt := top 42
theorem sc_law_letters : FnScope ["_law_pool_here", "_law_many", "_law_letters_here", "_law_turn"] ["_law_pool_here", "_law_many"] (defScope s_law_letters) := ⟨rfl, rfl, rfl, by decide +kernel, rfl, by decide +kernel, by decide +kernel⟩
abbrev s_law_folk : Stmt := top 43
theorem sc_law_folk : FnScope ["_law_pool_here", "_law_many", "_law_homes", "_law_turn", "_law_found", "_law_k", "_law_one", "_law_parts"] ["_law_pool_here", "_law_many"] (defScope s_law_folk) := ⟨rfl, rfl, rfl, by decide +kernel, rfl, by decide +kernel, by decide +kernel⟩
abbrev s_law_rank_rows : Stmt := top 44
theorem sc_law_rank_rows : FnScope ["_law_pool_here", "_law_folk_here", "_law_ranks", "_law_some", "_law_one", "_law_words", "_law_term"] ["_law_pool_here", "_law_folk_here"] (defScope s_law_rank_rows) := ⟨rfl, rfl, rfl, by decide +kernel, rfl, by decide +kernel, by decide +kernel⟩
abbrev s_law_add : Stmt := top 45
theorem sc_law_add : FnScope ["_law_web", "_law_sort", "_law_one", "_law_other", "_law_told", "_law_title", "_law_first"] ["_law_web", "_law_sort", "_law_one", "_law_other", "_law_told"] (defScope s_law_add) := ⟨rfl, rfl, rfl, by decide +kernel, rfl, by decide +kernel, by decide +kernel⟩
abbrev s_law_hall : Stmt := top 46
theorem sc_law_hall : FnScope ["_law_pool_here", "_law_folk_here", "_law_web", "_law_now", "_law_turn", "_law_one", "_law_told"] ["_law_pool_here", "_law_folk_here"] (defScope s_law_hall) := ⟨rfl, rfl, rfl, by decide +kernel, rfl, by decide +kernel, by decide +kernel⟩
abbrev s_law_content : Stmt := top 52
theorem sc_law_content : FnScope ["_law_pool_here", "_law_sort", "_law_folk_here", "_law_title", "_law_signs", "_law_turn"] ["_law_pool_here", "_law_sort", "_law_folk_here", "_law_title"] (defScope s_law_content) := ⟨rfl, rfl, rfl, by decide +kernel, rfl, by decide +kernel, by decide +kernel⟩
abbrev s_law_item : Stmt := top 53
theorem sc_law_item : FnScope ["_law_web", "_law_sort", "_law_doer", "_law_other", "_law_content_here", "_law_first"] ["_law_web", "_law_sort", "_law_doer", "_law_other", "_law_content_here"] (defScope s_law_item) := ⟨rfl, rfl, rfl, by decide +kernel, rfl, by decide +kernel, by decide +kernel⟩
abbrev s_law : Stmt := top 54
theorem sc_law : FnScope ["_law_script", "_law_k", "_law_pool_here", "_law_folk_here", "_law_web", "_law_now", "_law_sort", "_law_doer", "_law_other", "_law_content_here", "_law_item_here", "_law_found", "_law_told"] ["_law_script"] (defScope s_law) := ⟨rfl, rfl, rfl, by decide +kernel, rfl, by decide +kernel, by decide +kernel⟩
def k_WORDS : D := .tuple .wri [(.str "bar"), (.str "call"), (.str "door"), (.str "move"), (.str "out"), (.str "ranks"), (.str "say"), (.str "strike")]
def k_BEGIN_KEY : D := .tuple .wri [(.str "begin"), (.str "")]
def k_RANKS_KEY : D := .tuple .wri [(.str "ranks"), (.str "")]
def k_DOOR_KEY : D := .tuple .wri [(.str "door"), (.str "")]
def k_FREE_WORDS : D := .tuple .wri [(.str "call"), (.str "say")]
def k_TAKEN_SEATS : D := .tuple .wri [(.str "in"), (.str "called")]
def k_NO_RANKS : D := .tuple .wri [.tuple .wri [], .tuple .wri []]
/-- what the top has left -/
structure Txt (K : PySem.W.Frag) (mg : Str → Option Value) where
  f_house_of : Addr
  d_house_of : FuncData
  F_house_of : Fun K "house_of" "house_of" s_house_of f_house_of d_house_of
  b_house_of : Binds K d_house_of ["person"] []
  kw_house_of : ∀ (s : Shared) (ws : List Value), ws.length = 1 → BindsTo s d_house_of ⟨[], (["person"] : List Str).zip ws⟩ ((["person"] : List Str).zip ws)
  m_house_of : mg "house_of" = some (.ref f_house_of)
  f_body_for : Addr
  d_body_for : FuncData
  F_body_for : Fun K "body_for" "body_for" s_body_for f_body_for d_body_for
  b_body_for : Binds K d_body_for ["hall", "state", "key", "otherwise"] []
  kw_body_for : ∀ (s : Shared) (ws : List Value), ws.length = 4 → BindsTo s d_body_for ⟨[], (["hall", "state", "key", "otherwise"] : List Str).zip ws⟩ ((["hall", "state", "key", "otherwise"] : List Str).zip ws)
  m_body_for : mg "body_for" = some (.ref f_body_for)
  f_who_began : Addr
  d_who_began : FuncData
  F_who_began : Fun K "who_began" "who_began" s_who_began f_who_began d_who_began
  b_who_began : Binds K d_who_began ["hall", "state"] []
  kw_who_began : ∀ (s : Shared) (ws : List Value), ws.length = 2 → BindsTo s d_who_began ⟨[], (["hall", "state"] : List Str).zip ws⟩ ((["hall", "state"] : List Str).zip ws)
  m_who_began : mg "who_began" = some (.ref f_who_began)
  f_people_by : Addr
  d_people_by : FuncData
  F_people_by : Fun K "people_by" "people_by" s_people_by f_people_by d_people_by
  b_people_by : Binds K d_people_by ["body"] []
  kw_people_by : ∀ (s : Shared) (ws : List Value), ws.length = 1 → BindsTo s d_people_by ⟨[], (["body"] : List Str).zip ws⟩ ((["body"] : List Str).zip ws)
  m_people_by : mg "people_by" = some (.ref f_people_by)
  f_people_in : Addr
  d_people_in : FuncData
  F_people_in : Fun K "people_in" "people_in" s_people_in f_people_in d_people_in
  b_people_in : Binds K d_people_in ["hall", "state"] []
  kw_people_in : ∀ (s : Shared) (ws : List Value), ws.length = 2 → BindsTo s d_people_in ⟨[], (["hall", "state"] : List Str).zip ws⟩ ((["hall", "state"] : List Str).zip ws)
  m_people_in : mg "people_in" = some (.ref f_people_in)
  f_wanted_by : Addr
  d_wanted_by : FuncData
  F_wanted_by : Fun K "wanted_by" "wanted_by" s_wanted_by f_wanted_by d_wanted_by
  b_wanted_by : Binds K d_wanted_by ["body", "word"] []
  kw_wanted_by : ∀ (s : Shared) (ws : List Value), ws.length = 2 → BindsTo s d_wanted_by ⟨[], (["body", "word"] : List Str).zip ws⟩ ((["body", "word"] : List Str).zip ws)
  m_wanted_by : mg "wanted_by" = some (.ref f_wanted_by)
  f_rank_in : Addr
  d_rank_in : FuncData
  F_rank_in : Fun K "rank_in" "rank_in" s_rank_in f_rank_in d_rank_in
  b_rank_in : Binds K d_rank_in ["hall", "state", "person"] []
  kw_rank_in : ∀ (s : Shared) (ws : List Value), ws.length = 3 → BindsTo s d_rank_in ⟨[], (["hall", "state", "person"] : List Str).zip ws⟩ ((["hall", "state", "person"] : List Str).zip ws)
  m_rank_in : mg "rank_in" = some (.ref f_rank_in)
  f_wanted_in : Addr
  d_wanted_in : FuncData
  F_wanted_in : Fun K "wanted_in" "wanted_in" s_wanted_in f_wanted_in d_wanted_in
  b_wanted_in : Binds K d_wanted_in ["hall", "state", "word"] []
  kw_wanted_in : ∀ (s : Shared) (ws : List Value), ws.length = 3 → BindsTo s d_wanted_in ⟨[], (["hall", "state", "word"] : List Str).zip ws⟩ ((["hall", "state", "word"] : List Str).zip ws)
  m_wanted_in : mg "wanted_in" = some (.ref f_wanted_in)
  f_seat_in : Addr
  d_seat_in : FuncData
  F_seat_in : Fun K "seat_in" "seat_in" s_seat_in f_seat_in d_seat_in
  b_seat_in : Binds K d_seat_in ["hall", "state", "person"] []
  kw_seat_in : ∀ (s : Shared) (ws : List Value), ws.length = 3 → BindsTo s d_seat_in ⟨[], (["hall", "state", "person"] : List Str).zip ws⟩ ((["hall", "state", "person"] : List Str).zip ws)
  m_seat_in : mg "seat_in" = some (.ref f_seat_in)
  f_door_in : Addr
  d_door_in : FuncData
  F_door_in : Fun K "door_in" "door_in" s_door_in f_door_in d_door_in
  b_door_in : Binds K d_door_in ["hall", "state"] []
  kw_door_in : ∀ (s : Shared) (ws : List Value), ws.length = 2 → BindsTo s d_door_in ⟨[], (["hall", "state"] : List Str).zip ws⟩ ((["hall", "state"] : List Str).zip ws)
  m_door_in : mg "door_in" = some (.ref f_door_in)
  f_keys_for : Addr
  d_keys_for : FuncData
  F_keys_for : Fun K "keys_for" "keys_for" s_keys_for f_keys_for d_keys_for
  b_keys_for : Binds K d_keys_for ["kind", "who", "about", "body"] []
  kw_keys_for : ∀ (s : Shared) (ws : List Value), ws.length = 4 → BindsTo s d_keys_for ⟨[], (["kind", "who", "about", "body"] : List Str).zip ws⟩ ((["kind", "who", "about", "body"] : List Str).zip ws)
  m_keys_for : mg "keys_for" = some (.ref f_keys_for)
  f_leave_for : Addr
  d_leave_for : FuncData
  F_leave_for : Fun K "leave_for" "leave_for" s_leave_for f_leave_for d_leave_for
  b_leave_for : Binds K d_leave_for ["state", "kind", "who", "about", "body"] []
  kw_leave_for : ∀ (s : Shared) (ws : List Value), ws.length = 5 → BindsTo s d_leave_for ⟨[], (["state", "kind", "who", "about", "body"] : List Str).zip ws⟩ ((["state", "kind", "who", "about", "body"] : List Str).zip ws)
  m_leave_for : mg "leave_for" = some (.ref f_leave_for)
  f_bar_less : Addr
  d_bar_less : FuncData
  F_bar_less : Fun K "bar_less" "bar_less" s_bar_less f_bar_less d_bar_less
  b_bar_less : Binds K d_bar_less ["hall", "state", "who", "word"] []
  kw_bar_less : ∀ (s : Shared) (ws : List Value), ws.length = 4 → BindsTo s d_bar_less ⟨[], (["hall", "state", "who", "word"] : List Str).zip ws⟩ ((["hall", "state", "who", "word"] : List Str).zip ws)
  m_bar_less : mg "bar_less" = some (.ref f_bar_less)
  f_bar_coming : Addr
  d_bar_coming : FuncData
  F_bar_coming : Fun K "bar_coming" "bar_coming" s_bar_coming f_bar_coming d_bar_coming
  b_bar_coming : Binds K d_bar_coming ["hall", "state", "who", "about"] []
  kw_bar_coming : ∀ (s : Shared) (ws : List Value), ws.length = 4 → BindsTo s d_bar_coming ⟨[], (["hall", "state", "who", "about"] : List Str).zip ws⟩ ((["hall", "state", "who", "about"] : List Str).zip ws)
  m_bar_coming : mg "bar_coming" = some (.ref f_bar_coming)
  f_bar_calling : Addr
  d_bar_calling : FuncData
  F_bar_calling : Fun K "bar_calling" "bar_calling" s_bar_calling f_bar_calling d_bar_calling
  b_bar_calling : Binds K d_bar_calling ["hall", "state", "who", "about"] []
  kw_bar_calling : ∀ (s : Shared) (ws : List Value), ws.length = 4 → BindsTo s d_bar_calling ⟨[], (["hall", "state", "who", "about"] : List Str).zip ws⟩ ((["hall", "state", "who", "about"] : List Str).zip ws)
  m_bar_calling : mg "bar_calling" = some (.ref f_bar_calling)
  f_bar_putting : Addr
  d_bar_putting : FuncData
  F_bar_putting : Fun K "bar_putting" "bar_putting" s_bar_putting f_bar_putting d_bar_putting
  b_bar_putting : Binds K d_bar_putting ["hall", "state", "who", "about", "word"] []
  kw_bar_putting : ∀ (s : Shared) (ws : List Value), ws.length = 5 → BindsTo s d_bar_putting ⟨[], (["hall", "state", "who", "about", "word"] : List Str).zip ws⟩ ((["hall", "state", "who", "about", "word"] : List Str).zip ws)
  m_bar_putting : mg "bar_putting" = some (.ref f_bar_putting)
  f_bar_seat : Addr
  d_bar_seat : FuncData
  F_bar_seat : Fun K "bar_seat" "bar_seat" s_bar_seat f_bar_seat d_bar_seat
  b_bar_seat : Binds K d_bar_seat ["hall", "state", "who", "about", "body"] []
  kw_bar_seat : ∀ (s : Shared) (ws : List Value), ws.length = 5 → BindsTo s d_bar_seat ⟨[], (["hall", "state", "who", "about", "body"] : List Str).zip ws⟩ ((["hall", "state", "who", "about", "body"] : List Str).zip ws)
  m_bar_seat : mg "bar_seat" = some (.ref f_bar_seat)
  f_changes_above : Addr
  d_changes_above : FuncData
  F_changes_above : Fun K "changes_above" "changes_above" s_changes_above f_changes_above d_changes_above
  b_changes_above : Binds K d_changes_above ["elder", "newer", "own"] []
  kw_changes_above : ∀ (s : Shared) (ws : List Value), ws.length = 3 → BindsTo s d_changes_above ⟨[], (["elder", "newer", "own"] : List Str).zip ws⟩ ((["elder", "newer", "own"] : List Str).zip ws)
  m_changes_above : mg "changes_above" = some (.ref f_changes_above)
  f_takes_from_equal : Addr
  d_takes_from_equal : FuncData
  F_takes_from_equal : Fun K "takes_from_equal" "takes_from_equal" s_takes_from_equal f_takes_from_equal d_takes_from_equal
  b_takes_from_equal : Binds K d_takes_from_equal ["elder", "newer", "own"] []
  kw_takes_from_equal : ∀ (s : Shared) (ws : List Value), ws.length = 3 → BindsTo s d_takes_from_equal ⟨[], (["elder", "newer", "own"] : List Str).zip ws⟩ ((["elder", "newer", "own"] : List Str).zip ws)
  m_takes_from_equal : mg "takes_from_equal" = some (.ref f_takes_from_equal)
  f_bar_ranks : Addr
  d_bar_ranks : FuncData
  F_bar_ranks : Fun K "bar_ranks" "bar_ranks" s_bar_ranks f_bar_ranks d_bar_ranks
  b_bar_ranks : Binds K d_bar_ranks ["hall", "state", "who", "body"] []
  kw_bar_ranks : ∀ (s : Shared) (ws : List Value), ws.length = 4 → BindsTo s d_bar_ranks ⟨[], (["hall", "state", "who", "body"] : List Str).zip ws⟩ ((["hall", "state", "who", "body"] : List Str).zip ws)
  m_bar_ranks : mg "bar_ranks" = some (.ref f_bar_ranks)
  f_bar_strike : Addr
  d_bar_strike : FuncData
  F_bar_strike : Fun K "bar_strike" "bar_strike" s_bar_strike f_bar_strike d_bar_strike
  b_bar_strike : Binds K d_bar_strike ["hall", "state", "who", "struck"] []
  kw_bar_strike : ∀ (s : Shared) (ws : List Value), ws.length = 4 → BindsTo s d_bar_strike ⟨[], (["hall", "state", "who", "struck"] : List Str).zip ws⟩ ((["hall", "state", "who", "struck"] : List Str).zip ws)
  m_bar_strike : mg "bar_strike" = some (.ref f_bar_strike)
  f_bar : Addr
  d_bar : FuncData
  F_bar : Fun K "bar" "bar" s_bar f_bar d_bar
  b_bar : Binds K d_bar ["hall", "state", "deed"] []
  kw_bar : ∀ (s : Shared) (ws : List Value), ws.length = 3 → BindsTo s d_bar ⟨[], (["hall", "state", "deed"] : List Str).zip ws⟩ ((["hall", "state", "deed"] : List Str).zip ws)
  m_bar : mg "bar" = some (.ref f_bar)
  f_law_pool : Addr
  d_law_pool : FuncData
  F_law_pool : Fun K "_law_pool" "_law_pool" s_law_pool f_law_pool d_law_pool
  b_law_pool : Binds K d_law_pool ["_law_script", "_law_k"] []
  kw_law_pool : ∀ (s : Shared) (ws : List Value), ws.length = 2 → BindsTo s d_law_pool ⟨[], (["_law_script", "_law_k"] : List Str).zip ws⟩ ((["_law_script", "_law_k"] : List Str).zip ws)
  m_law_pool : mg "_law_pool" = some (.ref f_law_pool)
  f_law_take : Addr
  d_law_take : FuncData
  F_law_take : Fun K "_law_take" "_law_take" s_law_take f_law_take d_law_take
  b_law_take : Binds K d_law_take ["_law_pool_here", "_law_many"] []
  kw_law_take : ∀ (s : Shared) (ws : List Value), ws.length = 2 → BindsTo s d_law_take ⟨[], (["_law_pool_here", "_law_many"] : List Str).zip ws⟩ ((["_law_pool_here", "_law_many"] : List Str).zip ws)
  m_law_take : mg "_law_take" = some (.ref f_law_take)
  f_law_letters : Addr
  d_law_letters : FuncData
  F_law_letters : Fun K "_law_letters" "_law_letters" s_law_letters f_law_letters d_law_letters
  b_law_letters : Binds K d_law_letters ["_law_pool_here", "_law_many"] []
  kw_law_letters : ∀ (s : Shared) (ws : List Value), ws.length = 2 → BindsTo s d_law_letters ⟨[], (["_law_pool_here", "_law_many"] : List Str).zip ws⟩ ((["_law_pool_here", "_law_many"] : List Str).zip ws)
  m_law_letters : mg "_law_letters" = some (.ref f_law_letters)
  f_law_folk : Addr
  d_law_folk : FuncData
  F_law_folk : Fun K "_law_folk" "_law_folk" s_law_folk f_law_folk d_law_folk
  b_law_folk : Binds K d_law_folk ["_law_pool_here", "_law_many"] []
  kw_law_folk : ∀ (s : Shared) (ws : List Value), ws.length = 2 → BindsTo s d_law_folk ⟨[], (["_law_pool_here", "_law_many"] : List Str).zip ws⟩ ((["_law_pool_here", "_law_many"] : List Str).zip ws)
  m_law_folk : mg "_law_folk" = some (.ref f_law_folk)
  f_law_rank_rows : Addr
  d_law_rank_rows : FuncData
  F_law_rank_rows : Fun K "_law_rank_rows" "_law_rank_rows" s_law_rank_rows f_law_rank_rows d_law_rank_rows
  b_law_rank_rows : Binds K d_law_rank_rows ["_law_pool_here", "_law_folk_here"] []
  kw_law_rank_rows : ∀ (s : Shared) (ws : List Value), ws.length = 2 → BindsTo s d_law_rank_rows ⟨[], (["_law_pool_here", "_law_folk_here"] : List Str).zip ws⟩ ((["_law_pool_here", "_law_folk_here"] : List Str).zip ws)
  m_law_rank_rows : mg "_law_rank_rows" = some (.ref f_law_rank_rows)
  f_law_add : Addr
  d_law_add : FuncData
  F_law_add : Fun K "_law_add" "_law_add" s_law_add f_law_add d_law_add
  b_law_add : Binds K d_law_add ["_law_web", "_law_sort", "_law_one", "_law_other", "_law_told"] []
  kw_law_add : ∀ (s : Shared) (ws : List Value), ws.length = 5 → BindsTo s d_law_add ⟨[], (["_law_web", "_law_sort", "_law_one", "_law_other", "_law_told"] : List Str).zip ws⟩ ((["_law_web", "_law_sort", "_law_one", "_law_other", "_law_told"] : List Str).zip ws)
  m_law_add : mg "_law_add" = some (.ref f_law_add)
  f_law_hall : Addr
  d_law_hall : FuncData
  F_law_hall : Fun K "_law_hall" "_law_hall" s_law_hall f_law_hall d_law_hall
  b_law_hall : Binds K d_law_hall ["_law_pool_here", "_law_folk_here"] []
  kw_law_hall : ∀ (s : Shared) (ws : List Value), ws.length = 2 → BindsTo s d_law_hall ⟨[], (["_law_pool_here", "_law_folk_here"] : List Str).zip ws⟩ ((["_law_pool_here", "_law_folk_here"] : List Str).zip ws)
  m_law_hall : mg "_law_hall" = some (.ref f_law_hall)
  f_law_content : Addr
  d_law_content : FuncData
  F_law_content : Fun K "_law_content" "_law_content" s_law_content f_law_content d_law_content
  b_law_content : Binds K d_law_content ["_law_pool_here", "_law_sort", "_law_folk_here", "_law_title"] []
  kw_law_content : ∀ (s : Shared) (ws : List Value), ws.length = 4 → BindsTo s d_law_content ⟨[], (["_law_pool_here", "_law_sort", "_law_folk_here", "_law_title"] : List Str).zip ws⟩ ((["_law_pool_here", "_law_sort", "_law_folk_here", "_law_title"] : List Str).zip ws)
  m_law_content : mg "_law_content" = some (.ref f_law_content)
  f_law_item : Addr
  d_law_item : FuncData
  F_law_item : Fun K "_law_item" "_law_item" s_law_item f_law_item d_law_item
  b_law_item : Binds K d_law_item ["_law_web", "_law_sort", "_law_doer", "_law_other", "_law_content_here"] []
  kw_law_item : ∀ (s : Shared) (ws : List Value), ws.length = 5 → BindsTo s d_law_item ⟨[], (["_law_web", "_law_sort", "_law_doer", "_law_other", "_law_content_here"] : List Str).zip ws⟩ ((["_law_web", "_law_sort", "_law_doer", "_law_other", "_law_content_here"] : List Str).zip ws)
  m_law_item : mg "_law_item" = some (.ref f_law_item)
  f_law : Addr
  d_law : FuncData
  F_law : Fun K "law" "law" s_law f_law d_law
  b_law : Binds K d_law ["_law_script"] []
  kw_law : ∀ (s : Shared) (ws : List Value), ws.length = 1 → BindsTo s d_law ⟨[], (["_law_script"] : List Str).zip ws⟩ ((["_law_script"] : List Str).zip ws)
  m_law : mg "law" = some (.ref f_law)
  t_KIND : Tok
  c_KIND : mg "KIND" = some (.int 1 t_KIND)
  t_WHO : Tok
  c_WHO : mg "WHO" = some (.int 2 t_WHO)
  t_ABOUT : Tok
  c_ABOUT : mg "ABOUT" = some (.int 3 t_ABOUT)
  t_BODY : Tok
  c_BODY : mg "BODY" = some (.int 4 t_BODY)
  t_FIRST_RANK : Tok
  c_FIRST_RANK : mg "FIRST_RANK" = some (.int 100 t_FIRST_RANK)
  t_WANTED_ELSE : Tok
  c_WANTED_ELSE : mg "WANTED_ELSE" = some (.int 50 t_WANTED_ELSE)
  t_OWN_STRIKES_RULES : Tok
  c_OWN_STRIKES_RULES : mg "OWN_STRIKES_RULES" = some (.int 2 t_OWN_STRIKES_RULES)
  z_dict : mg "dict" = none
  z_int : mg "int" = none
  z_len : mg "len" = none
  z_list : mg "list" = none
  z_max : mg "max" = none
  z_min : mg "min" = none
  z_range : mg "range" = none
  z_sorted : mg "sorted" = none
  z_tuple : mg "tuple" = none
  a_WORDS : Addr
  m_WORDS : mg "WORDS" = some (.ref a_WORDS)
  r_WORDS : ∀ G, Rp K G (.ref a_WORDS) k_WORDS
  a_BEGIN_KEY : Addr
  m_BEGIN_KEY : mg "BEGIN_KEY" = some (.ref a_BEGIN_KEY)
  r_BEGIN_KEY : ∀ G, Rp K G (.ref a_BEGIN_KEY) k_BEGIN_KEY
  a_RANKS_KEY : Addr
  m_RANKS_KEY : mg "RANKS_KEY" = some (.ref a_RANKS_KEY)
  r_RANKS_KEY : ∀ G, Rp K G (.ref a_RANKS_KEY) k_RANKS_KEY
  a_DOOR_KEY : Addr
  m_DOOR_KEY : mg "DOOR_KEY" = some (.ref a_DOOR_KEY)
  r_DOOR_KEY : ∀ G, Rp K G (.ref a_DOOR_KEY) k_DOOR_KEY
  a_FREE_WORDS : Addr
  m_FREE_WORDS : mg "FREE_WORDS" = some (.ref a_FREE_WORDS)
  r_FREE_WORDS : ∀ G, Rp K G (.ref a_FREE_WORDS) k_FREE_WORDS
  a_TAKEN_SEATS : Addr
  m_TAKEN_SEATS : mg "TAKEN_SEATS" = some (.ref a_TAKEN_SEATS)
  r_TAKEN_SEATS : ∀ G, Rp K G (.ref a_TAKEN_SEATS) k_TAKEN_SEATS
  a_NO_RANKS : Addr
  m_NO_RANKS : mg "NO_RANKS" = some (.ref a_NO_RANKS)
  r_NO_RANKS : ∀ G, Rp K G (.ref a_NO_RANKS) k_NO_RANKS
  kx_0 : ∀ (s : Shared) (ws : List Value), ws.length = 4 → BindsTo s d_keys_for ⟨[], (["body", "about", "who", "kind"] : List Str).zip ws⟩ ((["kind", "who", "about", "body"] : List Str).zip (perm [3, 2, 1, 0] ws))
  kx_1 : ∀ (s : Shared) (ws : List Value), ws.length = 5 → BindsTo s d_leave_for ⟨[], (["kind", "who", "about", "body", "state"] : List Str).zip ws⟩ ((["state", "kind", "who", "about", "body"] : List Str).zip (perm [4, 0, 1, 2, 3] ws))
  kx_2 : ∀ (s : Shared) (ws : List Value), ws.length = 3 → BindsTo s d_bar ⟨[], (["deed", "state", "hall"] : List Str).zip ws⟩ ((["hall", "state", "deed"] : List Str).zip (perm [2, 1, 0] ws))
end K20

namespace K20
open PySem PySem.Spec PyProof.Rows L2 Br Dl
def b_keys_for : MS := (sIfF (mTest (mOp oEq (mVar 0) (mC (.str "begin")))) (sRet (mLst aNil))
    (sSeqF (sSetO 4 (mLst (aCons (mC k_BEGIN_KEY) (aCons (mC k_RANKS_KEY) (aCons (mTup (aCons (mC (.str "seat")) (aCons (mVar 1) aNil))) aNil)))))
    (sSeqF (sIf (mAnd (mTest (mOp oEq (mVar 0) (mC (.str "seat")))) (mTest (mOp oNe (mVar 2) (mVar 1))))
      (sAppend 4 (mTup (aCons (mC (.str "seat")) (aCons (mVar 2) aNil))))
      sNext)
    (sSeqF (sIf (mAnd (mTest (mOp oEq (mVar 0) (mC (.str "seat")))) (mTest (mOp oEq (mVar 3) (mC (.str "in")))))
      (sAppend 4 (mC k_DOOR_KEY))
      sNext)
    (sRetO 4)))))
def F_keys_for : Ff := FofF 4 1 b_keys_for
theorem d_keys_for {P : Program} {w : World} {K : PySem.W.Frag} {mg : Str → Option Value} {base : Heap} (T : Txt K mg) : FnF P w K mg base 1 T.f_keys_for T.d_keys_for ["kind", "who", "about", "body"] F_keys_for := by
  refine fn_ofG T.F_keys_for sc_keys_for rfl rfl (fun cdv Ar out s0 H E hG hr => ?_)
  exact (sbg_if (st_c (c_eq rfl hr.units) (se_var (pv 0)) (SE.V se_str) (nomark _)) (sbg_ret (se_lst sa_nil))
    (sbg_cons (ss_setO (i := 4) (by decide) sc_keys_for.nd rfl (.inl rfl) (se_lst (sa_cons (se_glob (v := .ref T.a_BEGIN_KEY) (by rfl) T.m_BEGIN_KEY rfl T.r_BEGIN_KEY) (sa_cons (se_glob (v := .ref T.a_RANKS_KEY) (by rfl) T.m_RANKS_KEY rfl T.r_RANKS_KEY) (sa_cons (se_tup (sa_cons se_str (sa_cons (se_var (pv 1)) sa_nil))) sa_nil)))))
    (sbg_cons (ss_if (SW.st (sw_and (st_c (c_eq rfl hr.units) (se_var (pv 0)) (SE.V se_str) (nomark _)) (sw_and1 (st_c (c_ne rfl hr.units) (se_var (pv 2)) (SE.V (se_var (pv 1))) (nomark _)))))
      (sb_one (ss_append (i := 4) rfl (pv 4) (se_tup (sa_cons se_str (sa_cons (se_var (pv 2)) sa_nil))))) sb_nil)
    (sbg_cons (ss_if (SW.st (sw_and (st_c (c_eq rfl hr.units) (se_var (pv 0)) (SE.V se_str) (nomark _)) (sw_and1 (st_c (c_eq rfl hr.units) (se_var (pv 3)) (SE.V se_str) (nomark _)))))
      (sb_one (ss_append (i := 4) rfl (pv 4) (se_glob (v := .ref T.a_DOOR_KEY) (by rfl) T.m_DOOR_KEY rfl T.r_DOOR_KEY))) sb_nil)
    (sbg_own (pv 4))))))
def b_leave_for : MS := (sRet (mUn oTupOf (mUn oSorted_pairs (mNc (mItems dLst (mCallF F_keys_for (aCons (mVar 1) (aCons (mVar 2) (aCons (mVar 3) (aCons (mVar 4) aNil)))))) (mgName 5) (mTest (mOp (oIn false) (mVar 5) (mVar 0))) (mOp oIx (mVar 0) (mVar 5)) [5]))))
def F_leave_for : Fs := Fof 5 1 0 b_leave_for
theorem d_leave_for {P : Program} {w : World} {K : PySem.W.Frag} {mg : Str → Option Value} {base : Heap} (T : Txt K mg) : FnD P w K mg base 2 T.f_leave_for T.d_leave_for ["state", "kind", "who", "about", "body"] 0 F_leave_for := by
  have O_keys_for := d_keys_for (P := P) (w := w) (base := base) T
  refine fn_of T.F_leave_for sc_leave_for (by decide) rfl rfl fun cdv Ar out s0 H E hG hr => ?_
  exact (sb_one (ss_ret (se_tuple_of rfl (by rfl) T.z_tuple (SE.FV (se_sorted_set rfl rfl (by rfl) T.z_sorted (se_nc (own := [("key", 5)]) (g := (gName 5)) (mg := (mgName 5)) (mt := (mTest (mOp (oIn false) (mVar 5) (mVar 0)))) (hu := Nat.lt_of_succ_lt (Room.u65 hr)) (hK := rfl) (me := (mOp oIx (mVar 0) (mVar 5))) rfl sc_leave_for.nd (si_list (SE.F (se_callF O_keys_for rfl hG hr (by decide) (by rfl) T.m_keys_for T.F_keys_for.kp T.b_keys_for (sa_cons (se_var (pv 1)) (sa_cons (se_var (pv 2)) (sa_cons (se_var (pv 3)) (sa_cons (se_var (pv 4)) sa_nil)))))) rfl) (blkOk_by (own := [("key", 5)]) (N := ["state", "kind", "who", "about", "body", "key"]) (sc := defScope s_leave_for) (by decide +kernel)) (fun _ _ _ _ _ => (pg_name (i := 5) sc_leave_for.nd rfl (Or.inl rfl))) (sg_name (by decide)) (by decide) (fun _ _ _ _ _ => sts_one (st_c (c_in rfl (Room.u65 hr)) (se_var (pv 5)) (SE.V (se_var (pv 0))) (by rfl))) (fun _ _ _ _ _ => (se_item rfl (Room.u1 hr) (se_var (pv 0)) (SE.V (se_var (pv 5))) (fun _ _ => rfl)))))))))
end K20

namespace K20
open PySem PySem.Spec PyProof.Rows L2 Br Dl
def b_house_of : MS := (sRet (mOp oIx (mSplit (mVar 0) (mC (.str "@"))) (mC (.int 1))))
def F_house_of : Fs := Fof 1 0 0 b_house_of
theorem d_house_of {P : Program} {w : World} {K : PySem.W.Frag} {mg : Str → Option Value} {base : Heap} (T : Txt K mg) : FnD P w K mg base 1 T.f_house_of T.d_house_of ["person"] 0 F_house_of := by
  refine fn_of T.F_house_of sc_house_of (by decide) rfl rfl fun cdv Ar out s0 H E hG hr => ?_
  exact (sb_one (ss_ret (se_item rfl (Room.u1 hr) (SE.F (se_split rfl (se_var (pv 0)) se_str)) (SE.V se_int) (fun _ _ => rfl))))
def b_body_for : MS := (sRet (mIfE (mTest (mOp (oIn false) (mVar 2) (mVar 1))) (mOp oIx (mOp oIx (mVar 0) (mOp oIx (mVar 1) (mVar 2))) (mC (.int 4))) (mVar 3)))
def F_body_for : Fs := Fof 4 0 0 b_body_for
theorem d_body_for {P : Program} {w : World} {K : PySem.W.Frag} {mg : Str → Option Value} {base : Heap} (T : Txt K mg) : FnD P w K mg base 1 T.f_body_for T.d_body_for ["hall", "state", "key", "otherwise"] 0 F_body_for := by
  refine fn_of T.F_body_for sc_body_for (by decide) rfl rfl fun cdv Ar out s0 H E hG hr => ?_
  exact (sb_one (ss_ret (se_if (st_c (c_in rfl (Room.u65 hr)) (se_var (pv 2)) (SE.V (se_var (pv 1))) (by rfl)) (se_item rfl (Room.u1 hr) (se_item rfl (Room.u1 hr) (se_var (pv 0)) (SE.V (se_item rfl (Room.u1 hr) (se_var (pv 1)) (SE.V (se_var (pv 2))) (fun _ _ => rfl))) (fun _ _ => rfl)) (SE.V (se_glob (v := .int 4) (d := .int 4) (by rfl) T.c_BODY ⟨_, rfl⟩ (fun _ => .int _))) (fun _ _ => rfl)) (se_var (pv 3)) keepE)))
def b_who_began : MS := (sRet (mIfE (mTest (mOp (oIn false) (mC k_BEGIN_KEY) (mVar 1))) (mOp oIx (mOp oIx (mVar 0) (mOp oIx (mVar 1) (mC k_BEGIN_KEY))) (mC (.int 2))) (mC .none)))
def F_who_began : Fs := Fof 2 0 0 b_who_began
theorem d_who_began {P : Program} {w : World} {K : PySem.W.Frag} {mg : Str → Option Value} {base : Heap} (T : Txt K mg) : FnD P w K mg base 1 T.f_who_began T.d_who_began ["hall", "state"] 0 F_who_began := by
  refine fn_of T.F_who_began sc_who_began (by decide) rfl rfl fun cdv Ar out s0 H E hG hr => ?_
  exact (sb_one (ss_ret (se_if (st_c (c_in rfl (Room.u65 hr)) (se_glob (v := .ref T.a_BEGIN_KEY) (by rfl) T.m_BEGIN_KEY rfl T.r_BEGIN_KEY) (SE.V (se_var (pv 1))) (by rfl)) (se_item rfl (Room.u1 hr) (se_item rfl (Room.u1 hr) (se_var (pv 0)) (SE.V (se_item rfl (Room.u1 hr) (se_var (pv 1)) (SE.V (se_glob (v := .ref T.a_BEGIN_KEY) (by rfl) T.m_BEGIN_KEY rfl T.r_BEGIN_KEY)) (fun _ _ => rfl))) (fun _ _ => rfl)) (SE.V (se_glob (v := .int 2) (d := .int 2) (by rfl) T.c_WHO ⟨_, rfl⟩ (fun _ => .int _))) (fun _ _ => rfl)) se_non keepE)))
def b_people_by : MS := (sRet (mUn oDict_pairs (mOp oIx (mVar 0) (mC (.int 0)))))
def F_people_by : Fs := Fof 1 0 0 b_people_by
theorem d_people_by {P : Program} {w : World} {K : PySem.W.Frag} {mg : Str → Option Value} {base : Heap} (T : Txt K mg) : FnD P w K mg base 1 T.f_people_by T.d_people_by ["body"] 0 F_people_by := by
  refine fn_of T.F_people_by sc_people_by (by decide) rfl rfl fun cdv Ar out s0 H E hG hr => ?_
  exact (sb_one (ss_ret (SE.F (se_dict_pairs rfl rfl (by rfl) T.z_dict (SE.V (se_item rfl (Room.u1 hr) (se_var (pv 0)) (SE.V se_int) (fun _ _ => rfl)))))))
def b_people_in : MS := (sSeq (sIf (mTest (mOp (oIn false) (mC k_RANKS_KEY) (mVar 1)))
      (sRet (mCall F_people_by 0 (rCons (mOp oIx (mOp oIx (mVar 0) (mOp oIx (mVar 1) (mC k_RANKS_KEY))) (mC (.int 4))) rNil)))
      sNext)
    (sRet (mIfE (mTest (mOp (oIn false) (mC k_BEGIN_KEY) (mVar 1))) (mDisp1 (mOp oIx (mOp oIx (mVar 0) (mOp oIx (mVar 1) (mC k_BEGIN_KEY))) (mC (.int 2))) (mC (.int 100))) mDNew)))
def F_people_in : Fs := Fof 2 0 0 b_people_in
theorem d_people_in {P : Program} {w : World} {K : PySem.W.Frag} {mg : Str → Option Value} {base : Heap} (T : Txt K mg) : FnD P w K mg base 2 T.f_people_in T.d_people_in ["hall", "state"] 0 F_people_in := by
  have O_people_by := d_people_by (P := P) (w := w) (base := base) T
  refine fn_of T.F_people_in sc_people_in (by decide) rfl rfl fun cdv Ar out s0 H E hG hr => ?_
  exact (sb_cons (ss_if (st_c (c_in rfl (Room.u65 hr)) (se_glob (v := .ref T.a_RANKS_KEY) (by rfl) T.m_RANKS_KEY rfl T.r_RANKS_KEY) (SE.V (se_var (pv 1))) (by rfl))
      (sb_one (ss_ret (se_callD O_people_by rfl hG hr (by decide) (by rfl) T.m_people_by T.F_people_by.kp T.b_people_by (sr_cons (se_item rfl (Room.u1 hr) (se_item rfl (Room.u1 hr) (se_var (pv 0)) (SE.V (se_item rfl (Room.u1 hr) (se_var (pv 1)) (SE.V (se_glob (v := .ref T.a_RANKS_KEY) (by rfl) T.m_RANKS_KEY rfl T.r_RANKS_KEY)) (fun _ _ => rfl))) (fun _ _ => rfl)) (SE.V (se_glob (v := .int 4) (d := .int 4) (by rfl) T.c_BODY ⟨_, rfl⟩ (fun _ => .int _))) (fun _ _ => rfl)) sr_nil)))) sb_nil)
    (sb_one (ss_ret (se_if (st_c (c_in rfl (Room.u65 hr)) (se_glob (v := .ref T.a_BEGIN_KEY) (by rfl) T.m_BEGIN_KEY rfl T.r_BEGIN_KEY) (SE.V (se_var (pv 1))) (by rfl)) (SE.F (se_disp1 (se_item rfl (Room.u1 hr) (se_item rfl (Room.u1 hr) (se_var (pv 0)) (SE.V (se_item rfl (Room.u1 hr) (se_var (pv 1)) (SE.V (se_glob (v := .ref T.a_BEGIN_KEY) (by rfl) T.m_BEGIN_KEY rfl T.r_BEGIN_KEY)) (fun _ _ => rfl))) (fun _ _ => rfl)) (SE.V (se_glob (v := .int 2) (d := .int 2) (by rfl) T.c_WHO ⟨_, rfl⟩ (fun _ => .int _))) (fun _ _ => rfl)) (se_glob (v := .int 100) (d := .int 100) (by rfl) T.c_FIRST_RANK ⟨_, rfl⟩ (fun _ => .int _)))) (SE.F se_dnewK) keepE))))
def b_wanted_by : MS := (sSeq (sFor (mItems dTup (mOp oIx (mVar 0) (mC (.int 1)))) (mgTup 2 (mgCons (mgName 2) (mgCons (mgName 3) mgNil)))
      (sIf (mTest (mOp oEq (mVar 2) (mVar 1)))
      (sRet (mVar 3))
      sNext))
    (sRet (mIfE (mTest (mOp (oIn false) (mVar 1) (mC k_FREE_WORDS))) (mC (.int 0)) (mC (.int 50)))))
def F_wanted_by : Fs := Fof 2 2 0 b_wanted_by
theorem d_wanted_by {P : Program} {w : World} {K : PySem.W.Frag} {mg : Str → Option Value} {base : Heap} (T : Txt K mg) : FnD P w K mg base 1 T.f_wanted_by T.d_wanted_by ["body", "word"] 0 F_wanted_by := by
  refine fn_of T.F_wanted_by sc_wanted_by (by decide) rfl rfl fun cdv Ar out s0 H E hG hr => ?_
  exact (sb_cons (ss_for (g := (gTup K 2 (gCons (gName 2) (gCons (gName 3) gNil)))) (mg := (mgTup 2 (mgCons (mgName 2) (mgCons (mgName 3) mgNil)))) PassesOwn.never rfl (si_tup (se_item rfl (Room.u1 hr) (se_var (pv 0)) (SE.V se_int) (fun _ _ => rfl)) rfl) (pg_tup rfl (pgs_cons (pg_name (i := 2) sc_wanted_by.nd rfl (.inl rfl)) (pgs_cons (pg_name (i := 3) sc_wanted_by.nd rfl (.inl rfl)) pgs_nil))) (sg_tup (sgs_cons (sg_name (by decide)) (sgs_cons (sg_name (by decide)) sgs_nil)))
      (sb_one (ss_if (st_c (c_eq rfl hr.units) (se_var (pv 2)) (SE.V (se_var (pv 1))) (nomark _))
      (sb_one (ss_ret (se_var (pv 3)))) sb_nil)))
    (sb_one (ss_ret (se_if (st_c (c_in rfl (Room.u65 hr)) (se_var (pv 1)) (SE.V (se_glob (v := .ref T.a_FREE_WORDS) (by rfl) T.m_FREE_WORDS rfl T.r_FREE_WORDS)) (by rfl)) se_int (se_glob (v := .int 50) (d := .int 50) (by rfl) T.c_WANTED_ELSE ⟨_, rfl⟩ (fun _ => .int _)) keepE))))
def b_rank_in : MS := (sRet (mGet2 (mCall F_people_in 0 (rCons (mVar 0) (rCons (mVar 1) rNil))) (mVar 2) (mC (.int 0))))
def F_rank_in : Fs := Fof 3 0 0 b_rank_in
theorem d_rank_in {P : Program} {w : World} {K : PySem.W.Frag} {mg : Str → Option Value} {base : Heap} (T : Txt K mg) : FnD P w K mg base 3 T.f_rank_in T.d_rank_in ["hall", "state", "person"] 0 F_rank_in := by
  have O_people_in := d_people_in (P := P) (w := w) (base := base) T
  refine fn_of T.F_rank_in sc_rank_in (by decide) rfl rfl fun cdv Ar out s0 H E hG hr => ?_
  exact (sb_one (ss_ret (se_get2 rfl (Room.u1 hr) (se_callD O_people_in rfl hG hr (by decide) (by rfl) T.m_people_in T.F_people_in.kp T.b_people_in (sr_cons (se_var (pv 0)) (sr_cons (se_var (pv 1)) sr_nil))) (se_var (pv 2)) se_int ⟨rfl, rfl, rfl, rfl⟩)))
def b_wanted_in : MS := (sRet (mCall F_wanted_by 0 (rCons (mIfE (mTest (mOp (oIn false) (mC k_RANKS_KEY) (mVar 1))) (mOp oIx (mOp oIx (mVar 0) (mOp oIx (mVar 1) (mC k_RANKS_KEY))) (mC (.int 4))) (mC k_NO_RANKS)) (rCons (mVar 2) rNil))))
def F_wanted_in : Fs := Fof 3 0 0 b_wanted_in
theorem d_wanted_in {P : Program} {w : World} {K : PySem.W.Frag} {mg : Str → Option Value} {base : Heap} (T : Txt K mg) : FnD P w K mg base 2 T.f_wanted_in T.d_wanted_in ["hall", "state", "word"] 0 F_wanted_in := by
  have O_wanted_by := d_wanted_by (P := P) (w := w) (base := base) T
  refine fn_of T.F_wanted_in sc_wanted_in (by decide) rfl rfl fun cdv Ar out s0 H E hG hr => ?_
  exact (sb_one (ss_ret (se_callD O_wanted_by rfl hG hr (by decide) (by rfl) T.m_wanted_by T.F_wanted_by.kp T.b_wanted_by (sr_cons (se_if (st_c (c_in rfl (Room.u65 hr)) (se_glob (v := .ref T.a_RANKS_KEY) (by rfl) T.m_RANKS_KEY rfl T.r_RANKS_KEY) (SE.V (se_var (pv 1))) (by rfl)) (se_item rfl (Room.u1 hr) (se_item rfl (Room.u1 hr) (se_var (pv 0)) (SE.V (se_item rfl (Room.u1 hr) (se_var (pv 1)) (SE.V (se_glob (v := .ref T.a_RANKS_KEY) (by rfl) T.m_RANKS_KEY rfl T.r_RANKS_KEY)) (fun _ _ => rfl))) (fun _ _ => rfl)) (SE.V (se_glob (v := .int 4) (d := .int 4) (by rfl) T.c_BODY ⟨_, rfl⟩ (fun _ => .int _))) (fun _ _ => rfl)) (se_glob (v := .ref T.a_NO_RANKS) (by rfl) T.m_NO_RANKS rfl T.r_NO_RANKS) keepE) (sr_cons (se_var (pv 2)) sr_nil)))))
def b_seat_in : MS := (sSeq (sSet 3 (mTup (aCons (mC (.str "seat")) (aCons (mVar 2) aNil))))
    (sRet (mIfE (mTest (mOp (oIn false) (mVar 3) (mVar 1))) (mOp oIx (mOp oIx (mVar 0) (mOp oIx (mVar 1) (mVar 3))) (mC (.int 4))) (mC (.str "out")))))
def F_seat_in : Fs := Fof 3 1 0 b_seat_in
theorem d_seat_in {P : Program} {w : World} {K : PySem.W.Frag} {mg : Str → Option Value} {base : Heap} (T : Txt K mg) : FnD P w K mg base 1 T.f_seat_in T.d_seat_in ["hall", "state", "person"] 0 F_seat_in := by
  refine fn_of T.F_seat_in sc_seat_in (by decide) rfl rfl fun cdv Ar out s0 H E hG hr => ?_
  exact (sb_cons (ss_set (i := 3) (by decide) sc_seat_in.nd rfl (.inl rfl) (se_tup (sa_cons se_str (sa_cons (se_var (pv 2)) sa_nil))))
    (sb_one (ss_ret (se_if (st_c (c_in rfl (Room.u65 hr)) (se_var (pv 3)) (SE.V (se_var (pv 1))) (by rfl)) (se_item rfl (Room.u1 hr) (se_item rfl (Room.u1 hr) (se_var (pv 0)) (SE.V (se_item rfl (Room.u1 hr) (se_var (pv 1)) (SE.V (se_var (pv 3))) (fun _ _ => rfl))) (fun _ _ => rfl)) (SE.V (se_glob (v := .int 4) (d := .int 4) (by rfl) T.c_BODY ⟨_, rfl⟩ (fun _ => .int _))) (fun _ _ => rfl)) se_str keepE))))
def b_door_in : MS := (sRet (mCall F_body_for 0 (rCons (mVar 0) (rCons (mVar 1) (rCons (mC k_DOOR_KEY) (rCons (mC (.str "asked")) rNil))))))
def F_door_in : Fs := Fof 2 0 0 b_door_in
theorem d_door_in {P : Program} {w : World} {K : PySem.W.Frag} {mg : Str → Option Value} {base : Heap} (T : Txt K mg) : FnD P w K mg base 2 T.f_door_in T.d_door_in ["hall", "state"] 0 F_door_in := by
  have O_body_for := d_body_for (P := P) (w := w) (base := base) T
  refine fn_of T.F_door_in sc_door_in (by decide) rfl rfl fun cdv Ar out s0 H E hG hr => ?_
  exact (sb_one (ss_ret (se_callD O_body_for rfl hG hr (by decide) (by rfl) T.m_body_for T.F_body_for.kp T.b_body_for (sr_cons (se_var (pv 0)) (sr_cons (se_var (pv 1)) (sr_cons (se_glob (v := .ref T.a_DOOR_KEY) (by rfl) T.m_DOOR_KEY rfl T.r_DOOR_KEY) (sr_cons se_str sr_nil)))))))
end K20

namespace K20
open PySem PySem.Spec PyProof.Rows L2 Br Dl
def b_bar_less : MS := (sSeq (sSet 4 (mCall F_wanted_in 0 (rCons (mVar 0) (rCons (mVar 1) (rCons (mVar 3) rNil)))))
    (sRet (mIfE (mAnd (mTest (mOp oGt (mVar 4) (mC (.int 0)))) (mTest (mOp oLt (mCall F_rank_in 0 (rCons (mVar 0) (rCons (mVar 1) (rCons (mVar 2) rNil)))) (mVar 4)))) (mC (.str "rank")) (mC .none))))
def F_bar_less : Fs := Fof 4 1 0 b_bar_less
theorem d_bar_less {P : Program} {w : World} {K : PySem.W.Frag} {mg : Str → Option Value} {base : Heap} (T : Txt K mg) : FnD P w K mg base 4 T.f_bar_less T.d_bar_less ["hall", "state", "who", "word"] 0 F_bar_less := by
  have O_rank_in := d_rank_in (P := P) (w := w) (base := base) T
  have O_wanted_in := d_wanted_in (P := P) (w := w) (base := base) T
  refine fn_of T.F_bar_less sc_bar_less (by decide) rfl rfl fun cdv Ar out s0 H E hG hr => ?_
  exact (sb_cons (ss_set (i := 4) (by decide) sc_bar_less.nd rfl (.inl rfl) (se_callD O_wanted_in rfl hG hr (by decide) (by rfl) T.m_wanted_in T.F_wanted_in.kp T.b_wanted_in (sr_cons (se_var (pv 0)) (sr_cons (se_var (pv 1)) (sr_cons (se_var (pv 3)) sr_nil)))))
    (sb_one (ss_ret (se_if (SW.st (sw_and (st_c (c_gt rfl) (se_var (pv 4)) (SE.V se_int) (nomark _)) (sw_and1 (st_c (c_lt rfl) (se_callD O_rank_in rfl hG hr (by decide) (by rfl) T.m_rank_in T.F_rank_in.kp T.b_rank_in (sr_cons (se_var (pv 0)) (sr_cons (se_var (pv 1)) (sr_cons (se_var (pv 2)) sr_nil)))) (SE.V (se_var (pv 4))) (nomark _))))) se_str se_non keepE))))
def b_bar_coming : MS := (sSeq (sIf (mTest (mOp oNe (mVar 3) (mVar 2)))
      (sRet (mC (.str "other")))
      sNext)
    (sSeq (sSet 4 (mCall F_seat_in 0 (rCons (mVar 0) (rCons (mVar 1) (rCons (mVar 2) rNil)))))
    (sSeq (sIf (mTest (mOp oEq (mVar 4) (mC (.str "barred"))))
      (sRet (mC (.str "barred")))
      sNext)
    (sSeq (sIf (mOr (mTest (mOp (oIn false) (mVar 4) (mC k_TAKEN_SEATS))) (mOr (mTest (mOp oEq (mCall F_door_in 0 (rCons (mVar 0) (rCons (mVar 1) rNil))) (mC (.str "open")))) (mTest (mOp oEq (mVar 2) (mCall F_who_began 0 (rCons (mVar 0) (rCons (mVar 1) rNil)))))))
      (sRet (mC .none))
      sNext)
    (sRet (mC (.str "door")))))))
def F_bar_coming : Fs := Fof 4 1 0 b_bar_coming
theorem d_bar_coming {P : Program} {w : World} {K : PySem.W.Frag} {mg : Str → Option Value} {base : Heap} (T : Txt K mg) : FnD P w K mg base 3 T.f_bar_coming T.d_bar_coming ["hall", "state", "who", "about"] 0 F_bar_coming := by
  have O_door_in := d_door_in (P := P) (w := w) (base := base) T
  have O_seat_in := d_seat_in (P := P) (w := w) (base := base) T
  have O_who_began := d_who_began (P := P) (w := w) (base := base) T
  refine fn_of T.F_bar_coming sc_bar_coming (by decide) rfl rfl fun cdv Ar out s0 H E hG hr => ?_
  exact (sb_cons (ss_if (st_c (c_ne rfl hr.units) (se_var (pv 3)) (SE.V (se_var (pv 2))) (nomark _))
      (sb_one (ss_ret se_str)) sb_nil)
    (sb_cons (ss_set (i := 4) (by decide) sc_bar_coming.nd rfl (.inl rfl) (se_callD O_seat_in rfl hG hr (by decide) (by rfl) T.m_seat_in T.F_seat_in.kp T.b_seat_in (sr_cons (se_var (pv 0)) (sr_cons (se_var (pv 1)) (sr_cons (se_var (pv 2)) sr_nil)))))
    (sb_cons (ss_if (st_c (c_eq rfl hr.units) (se_var (pv 4)) (SE.V se_str) (nomark _))
      (sb_one (ss_ret se_str)) sb_nil)
    (sb_cons (ss_if (SW.st (sw_or (st_c (c_in rfl (Room.u65 hr)) (se_var (pv 4)) (SE.V (se_glob (v := .ref T.a_TAKEN_SEATS) (by rfl) T.m_TAKEN_SEATS rfl T.r_TAKEN_SEATS)) (by rfl)) (sw_or (st_c (c_eq rfl hr.units) (se_callD O_door_in rfl hG hr (by decide) (by rfl) T.m_door_in T.F_door_in.kp T.b_door_in (sr_cons (se_var (pv 0)) (sr_cons (se_var (pv 1)) sr_nil))) (SE.V se_str) (nomark _)) (sw_or1 (st_c (c_eq rfl hr.units) (se_var (pv 2)) (SE.V (se_callD O_who_began rfl hG hr (by decide) (by rfl) T.m_who_began T.F_who_began.kp T.b_who_began (sr_cons (se_var (pv 0)) (sr_cons (se_var (pv 1)) sr_nil)))) (nomark _))))))
      (sb_one (ss_ret se_non)) sb_nil)
    (sb_one (ss_ret se_str))))))
def b_bar_calling : MS := (sSeq (sSet 4 (mCall F_seat_in 0 (rCons (mVar 0) (rCons (mVar 1) (rCons (mVar 3) rNil)))))
    (sSeq (sIf (mTest (mOp oEq (mVar 4) (mC (.str "in"))))
      (sRet (mC (.str "there")))
      sNext)
    (sSeq (sIf (mTest (mOp oEq (mVar 4) (mC (.str "barred"))))
      (sRet (mC (.str "barred")))
      sNext)
    (sRet (mCall F_bar_less 0 (rCons (mVar 0) (rCons (mVar 1) (rCons (mVar 2) (rCons (mC (.str "call")) rNil)))))))))
def F_bar_calling : Fs := Fof 4 1 0 b_bar_calling
theorem d_bar_calling {P : Program} {w : World} {K : PySem.W.Frag} {mg : Str → Option Value} {base : Heap} (T : Txt K mg) : FnD P w K mg base 5 T.f_bar_calling T.d_bar_calling ["hall", "state", "who", "about"] 0 F_bar_calling := by
  have O_bar_less := d_bar_less (P := P) (w := w) (base := base) T
  have O_seat_in := d_seat_in (P := P) (w := w) (base := base) T
  refine fn_of T.F_bar_calling sc_bar_calling (by decide) rfl rfl fun cdv Ar out s0 H E hG hr => ?_
  exact (sb_cons (ss_set (i := 4) (by decide) sc_bar_calling.nd rfl (.inl rfl) (se_callD O_seat_in rfl hG hr (by decide) (by rfl) T.m_seat_in T.F_seat_in.kp T.b_seat_in (sr_cons (se_var (pv 0)) (sr_cons (se_var (pv 1)) (sr_cons (se_var (pv 3)) sr_nil)))))
    (sb_cons (ss_if (st_c (c_eq rfl hr.units) (se_var (pv 4)) (SE.V se_str) (nomark _))
      (sb_one (ss_ret se_str)) sb_nil)
    (sb_cons (ss_if (st_c (c_eq rfl hr.units) (se_var (pv 4)) (SE.V se_str) (nomark _))
      (sb_one (ss_ret se_str)) sb_nil)
    (sb_one (ss_ret (se_callD O_bar_less rfl hG hr (by decide) (by rfl) T.m_bar_less T.F_bar_less.kp T.b_bar_less (sr_cons (se_var (pv 0)) (sr_cons (se_var (pv 1)) (sr_cons (se_var (pv 2)) (sr_cons se_str sr_nil))))))))))
def b_bar_putting : MS := (sSeq (sSet 5 (mCall F_bar_less 0 (rCons (mVar 0) (rCons (mVar 1) (rCons (mVar 2) (rCons (mVar 4) rNil))))))
    (sSeq (sIf (mAnd (mTest (mOp (oIsN false) (mVar 5) (mC .none))) (mTest (mOp oEq (mCall F_seat_in 0 (rCons (mVar 0) (rCons (mVar 1) (rCons (mVar 3) rNil)))) (mC (.str "barred")))))
      (sSet 5 (mCall F_bar_less 0 (rCons (mVar 0) (rCons (mVar 1) (rCons (mVar 2) (rCons (mC (.str "bar")) rNil))))))
      sNext)
    (sSeq (sIf (mAnd (mTest (mOp (oIsN false) (mVar 5) (mC .none))) (mTest (mOp oGe (mCall F_rank_in 0 (rCons (mVar 0) (rCons (mVar 1) (rCons (mVar 3) rNil)))) (mCall F_rank_in 0 (rCons (mVar 0) (rCons (mVar 1) (rCons (mVar 2) rNil)))))))
      (sSet 5 (mC (.str "above")))
      sNext)
    (sRet (mVar 5)))))
def F_bar_putting : Fs := Fof 5 1 0 b_bar_putting
theorem d_bar_putting {P : Program} {w : World} {K : PySem.W.Frag} {mg : Str → Option Value} {base : Heap} (T : Txt K mg) : FnD P w K mg base 5 T.f_bar_putting T.d_bar_putting ["hall", "state", "who", "about", "word"] 0 F_bar_putting := by
  have O_bar_less := d_bar_less (P := P) (w := w) (base := base) T
  have O_rank_in := d_rank_in (P := P) (w := w) (base := base) T
  have O_seat_in := d_seat_in (P := P) (w := w) (base := base) T
  refine fn_of T.F_bar_putting sc_bar_putting (by decide) rfl rfl fun cdv Ar out s0 H E hG hr => ?_
  exact (sb_cons (ss_set (i := 5) (by decide) sc_bar_putting.nd rfl (.inl rfl) (se_callD O_bar_less rfl hG hr (by decide) (by rfl) T.m_bar_less T.F_bar_less.kp T.b_bar_less (sr_cons (se_var (pv 0)) (sr_cons (se_var (pv 1)) (sr_cons (se_var (pv 2)) (sr_cons (se_var (pv 4)) sr_nil))))))
    (sb_cons (ss_if (SW.st (sw_and (st_c (c_is rfl) (se_var (pv 5)) (SE.V se_non) (nomark _)) (sw_and1 (st_c (c_eq rfl hr.units) (se_callD O_seat_in rfl hG hr (by decide) (by rfl) T.m_seat_in T.F_seat_in.kp T.b_seat_in (sr_cons (se_var (pv 0)) (sr_cons (se_var (pv 1)) (sr_cons (se_var (pv 3)) sr_nil)))) (SE.V se_str) (nomark _)))))
      (sb_one (ss_set (i := 5) (by decide) sc_bar_putting.nd rfl (.inl rfl) (se_callD O_bar_less rfl hG hr (by decide) (by rfl) T.m_bar_less T.F_bar_less.kp T.b_bar_less (sr_cons (se_var (pv 0)) (sr_cons (se_var (pv 1)) (sr_cons (se_var (pv 2)) (sr_cons se_str sr_nil))))))) sb_nil)
    (sb_cons (ss_if (SW.st (sw_and (st_c (c_is rfl) (se_var (pv 5)) (SE.V se_non) (nomark _)) (sw_and1 (st_c (c_ge rfl) (se_callD O_rank_in rfl hG hr (by decide) (by rfl) T.m_rank_in T.F_rank_in.kp T.b_rank_in (sr_cons (se_var (pv 0)) (sr_cons (se_var (pv 1)) (sr_cons (se_var (pv 3)) sr_nil)))) (SE.V (se_callD O_rank_in rfl hG hr (by decide) (by rfl) T.m_rank_in T.F_rank_in.kp T.b_rank_in (sr_cons (se_var (pv 0)) (sr_cons (se_var (pv 1)) (sr_cons (se_var (pv 2)) sr_nil))))) (nomark _)))))
      (sb_one (ss_set (i := 5) (by decide) sc_bar_putting.nd rfl (.inl rfl) se_str)) sb_nil)
    (sb_one (ss_ret (se_var (pv 5)))))))
def b_bar_seat : MS := (sSeq (sIf (mTest (mOp oEq (mVar 4) (mC (.str "in"))))
      (sRet (mCall F_bar_coming 0 (rCons (mVar 0) (rCons (mVar 1) (rCons (mVar 2) (rCons (mVar 3) rNil))))))
      sNext)
    (sSeq (sSet 5 (mCall F_seat_in 0 (rCons (mVar 0) (rCons (mVar 1) (rCons (mVar 2) rNil)))))
    (sSeq (sIf (mAnd (mTest (mOp oEq (mVar 4) (mC (.str "out")))) (mTest (mOp oEq (mVar 3) (mVar 2))))
      (sRet (mIfE (mTest (mOp (oIn false) (mVar 5) (mC k_TAKEN_SEATS))) (mC .none) (mC (.str "seat"))))
      sNext)
    (sSeq (sIf (mTest (mOp oNe (mVar 5) (mC (.str "in"))))
      (sRet (mC (.str "seat")))
      sNext)
    (sSeq (sIf (mTest (mOp oEq (mVar 4) (mC (.str "called"))))
      (sRet (mCall F_bar_calling 0 (rCons (mVar 0) (rCons (mVar 1) (rCons (mVar 2) (rCons (mVar 3) rNil))))))
      sNext)
    (sRet (mCall F_bar_putting 0 (rCons (mVar 0) (rCons (mVar 1) (rCons (mVar 2) (rCons (mVar 3) (rCons (mIfE (mTest (mOp oEq (mVar 4) (mC (.str "out")))) (mC (.str "out")) (mC (.str "bar"))) rNil))))))))))))
def F_bar_seat : Fs := Fof 5 1 0 b_bar_seat
theorem d_bar_seat {P : Program} {w : World} {K : PySem.W.Frag} {mg : Str → Option Value} {base : Heap} (T : Txt K mg) : FnD P w K mg base 6 T.f_bar_seat T.d_bar_seat ["hall", "state", "who", "about", "body"] 0 F_bar_seat := by
  have O_bar_calling := d_bar_calling (P := P) (w := w) (base := base) T
  have O_bar_coming := d_bar_coming (P := P) (w := w) (base := base) T
  have O_bar_putting := d_bar_putting (P := P) (w := w) (base := base) T
  have O_seat_in := d_seat_in (P := P) (w := w) (base := base) T
  refine fn_of T.F_bar_seat sc_bar_seat (by decide) rfl rfl fun cdv Ar out s0 H E hG hr => ?_
  exact (sb_cons (ss_if (st_c (c_eq rfl hr.units) (se_var (pv 4)) (SE.V se_str) (nomark _))
      (sb_one (ss_ret (se_callD O_bar_coming rfl hG hr (by decide) (by rfl) T.m_bar_coming T.F_bar_coming.kp T.b_bar_coming (sr_cons (se_var (pv 0)) (sr_cons (se_var (pv 1)) (sr_cons (se_var (pv 2)) (sr_cons (se_var (pv 3)) sr_nil))))))) sb_nil)
    (sb_cons (ss_set (i := 5) (by decide) sc_bar_seat.nd rfl (.inl rfl) (se_callD O_seat_in rfl hG hr (by decide) (by rfl) T.m_seat_in T.F_seat_in.kp T.b_seat_in (sr_cons (se_var (pv 0)) (sr_cons (se_var (pv 1)) (sr_cons (se_var (pv 2)) sr_nil)))))
    (sb_cons (ss_if (SW.st (sw_and (st_c (c_eq rfl hr.units) (se_var (pv 4)) (SE.V se_str) (nomark _)) (sw_and1 (st_c (c_eq rfl hr.units) (se_var (pv 3)) (SE.V (se_var (pv 2))) (nomark _)))))
      (sb_one (ss_ret (se_if (st_c (c_in rfl (Room.u65 hr)) (se_var (pv 5)) (SE.V (se_glob (v := .ref T.a_TAKEN_SEATS) (by rfl) T.m_TAKEN_SEATS rfl T.r_TAKEN_SEATS)) (by rfl)) se_non se_str keepE))) sb_nil)
    (sb_cons (ss_if (st_c (c_ne rfl hr.units) (se_var (pv 5)) (SE.V se_str) (nomark _))
      (sb_one (ss_ret se_str)) sb_nil)
    (sb_cons (ss_if (st_c (c_eq rfl hr.units) (se_var (pv 4)) (SE.V se_str) (nomark _))
      (sb_one (ss_ret (se_callD O_bar_calling rfl hG hr (by decide) (by rfl) T.m_bar_calling T.F_bar_calling.kp T.b_bar_calling (sr_cons (se_var (pv 0)) (sr_cons (se_var (pv 1)) (sr_cons (se_var (pv 2)) (sr_cons (se_var (pv 3)) sr_nil))))))) sb_nil)
    (sb_one (ss_ret (se_callD O_bar_putting rfl hG hr (by decide) (by rfl) T.m_bar_putting T.F_bar_putting.kp T.b_bar_putting (sr_cons (se_var (pv 0)) (sr_cons (se_var (pv 1)) (sr_cons (se_var (pv 2)) (sr_cons (se_var (pv 3)) (sr_cons (se_if (st_c (c_eq rfl hr.units) (se_var (pv 4)) (SE.V se_str) (nomark _)) se_str se_str keepE) sr_nil)))))))))))))
def b_changes_above : MS := (sRet (mAndV (mOp oNe (mVar 0) (mVar 1)) (mOp oGt (mOn oMax (aCons (mVar 0) (aCons (mVar 1) aNil))) (mVar 2))))
def F_changes_above : Fs := Fof 3 0 0 b_changes_above
theorem d_changes_above {P : Program} {w : World} {K : PySem.W.Frag} {mg : Str → Option Value} {base : Heap} (T : Txt K mg) : FnD P w K mg base 1 T.f_changes_above T.d_changes_above ["elder", "newer", "own"] 0 F_changes_above := by
  refine fn_of T.F_changes_above sc_changes_above (by decide) rfl rfl fun cdv Ar out s0 H E hG hr => ?_
  exact (sb_one (ss_ret (se_and (se_c (c_ne rfl hr.units) (se_var (pv 0)) (SE.V (se_var (pv 1))) (nomark _)) (se_one (se_c (c_gt rfl) (se_max rfl rfl (by rfl) T.z_max (sa_cons (se_var (pv 0)) (sa_cons (se_var (pv 1)) sa_nil))) (SE.V (se_var (pv 2))) (nomark _))))))
def b_takes_from_equal : MS := (sRet (mAndV (mOp oNe (mVar 0) (mVar 1)) (mOp oEq (mVar 0) (mVar 2))))
def F_takes_from_equal : Fs := Fof 3 0 0 b_takes_from_equal
theorem d_takes_from_equal {P : Program} {w : World} {K : PySem.W.Frag} {mg : Str → Option Value} {base : Heap} (T : Txt K mg) : FnD P w K mg base 1 T.f_takes_from_equal T.d_takes_from_equal ["elder", "newer", "own"] 0 F_takes_from_equal := by
  refine fn_of T.F_takes_from_equal sc_takes_from_equal (by decide) rfl rfl fun cdv Ar out s0 H E hG hr => ?_
  exact (sb_one (ss_ret (se_and (se_c (c_ne rfl hr.units) (se_var (pv 0)) (SE.V (se_var (pv 1))) (nomark _)) (se_one (se_c (c_eq rfl hr.units) (se_var (pv 0)) (SE.V (se_var (pv 2))) (nomark _))))))
def b_bar_ranks : MS := (sSeq (sIf (mTest (mOp (oIsN true) (mCall F_bar_less 0 (rCons (mVar 0) (rCons (mVar 1) (rCons (mVar 2) (rCons (mC (.str "ranks")) rNil))))) (mC .none)))
      (sRet (mC (.str "rank")))
      sNext)
    (sSeq (sSet 4 (mCall F_people_in 0 (rCons (mVar 0) (rCons (mVar 1) rNil))))
    (sSeq (sSet 5 (mCall F_people_by 0 (rCons (mVar 3) rNil)))
    (sSeq (sSet 6 (mGet2 (mVar 4) (mVar 2) (mC (.int 0))))
    (sSeq (sFor (mItems dLst (mLst (aStarD (mVar 4) (aStarD (mVar 5) aNil)))) (mgName 7)
      (sSeq (sSet 8 (mTup (aCons (mGet2 (mVar 4) (mVar 7) (mC (.int 0))) (aCons (mGet2 (mVar 5) (mVar 7) (mC (.int 0))) aNil))))
    (sIf (mOr (mTest (mCall F_changes_above 0 (rStar (mVar 8) (rCons (mVar 6) rNil)))) (mAnd (mTest (mOp oNe (mVar 7) (mVar 2))) (mTest (mCall F_takes_from_equal 0 (rStar (mVar 8) (rCons (mVar 6) rNil))))))
      (sRet (mC (.str "above")))
      sNext)))
    (sSeq (sFor (mItems dTup (mC k_WORDS)) (mgName 9)
      (sIf (mTest (mCall F_changes_above 0 (rCons (mCall F_wanted_in 0 (rCons (mVar 0) (rCons (mVar 1) (rCons (mVar 9) rNil)))) (rCons (mCall F_wanted_by 0 (rCons (mVar 3) (rCons (mVar 9) rNil))) (rCons (mVar 6) rNil)))))
      (sRet (mC (.str "above")))
      sNext))
    (sRet (mC .none))))))))
def F_bar_ranks : Fs := Fof 4 6 0 b_bar_ranks
theorem d_bar_ranks {P : Program} {w : World} {K : PySem.W.Frag} {mg : Str → Option Value} {base : Heap} (T : Txt K mg) : FnD P w K mg base 5 T.f_bar_ranks T.d_bar_ranks ["hall", "state", "who", "body"] 0 F_bar_ranks := by
  have O_bar_less := d_bar_less (P := P) (w := w) (base := base) T
  have O_changes_above := d_changes_above (P := P) (w := w) (base := base) T
  have O_people_by := d_people_by (P := P) (w := w) (base := base) T
  have O_people_in := d_people_in (P := P) (w := w) (base := base) T
  have O_takes_from_equal := d_takes_from_equal (P := P) (w := w) (base := base) T
  have O_wanted_by := d_wanted_by (P := P) (w := w) (base := base) T
  have O_wanted_in := d_wanted_in (P := P) (w := w) (base := base) T
  refine fn_of T.F_bar_ranks sc_bar_ranks (by decide) rfl rfl fun cdv Ar out s0 H E hG hr => ?_
  exact (sb_cons (ss_if (st_c (c_isNot rfl) (se_callD O_bar_less rfl hG hr (by decide) (by rfl) T.m_bar_less T.F_bar_less.kp T.b_bar_less (sr_cons (se_var (pv 0)) (sr_cons (se_var (pv 1)) (sr_cons (se_var (pv 2)) (sr_cons se_str sr_nil))))) (SE.V se_non) (nomark _))
      (sb_one (ss_ret se_str)) sb_nil)
    (sb_cons (ss_set (i := 4) (by decide) sc_bar_ranks.nd rfl (.inl rfl) (se_callD O_people_in rfl hG hr (by decide) (by rfl) T.m_people_in T.F_people_in.kp T.b_people_in (sr_cons (se_var (pv 0)) (sr_cons (se_var (pv 1)) sr_nil))))
    (sb_cons (ss_set (i := 5) (by decide) sc_bar_ranks.nd rfl (.inl rfl) (se_callD O_people_by rfl hG hr (by decide) (by rfl) T.m_people_by T.F_people_by.kp T.b_people_by (sr_cons (se_var (pv 3)) sr_nil)))
    (sb_cons (ss_set (i := 6) (by decide) sc_bar_ranks.nd rfl (.inl rfl) (se_get2 rfl (Room.u1 hr) (se_var (pv 4)) (se_var (pv 2)) se_int ⟨rfl, rfl, rfl, rfl⟩))
    (sb_cons (ss_for (g := (gName 7)) (mg := (mgName 7)) PassesOwn.never rfl (si_list (SE.F (se_lst (sa_starD rfl rfl (SE.V (se_var (pv 4))) (sa_starD rfl rfl (SE.V (se_var (pv 5))) sa_nil)))) rfl) (pg_name (i := 7) sc_bar_ranks.nd rfl (.inl rfl)) (sg_name (by decide))
      (sb_cons (ss_set (i := 8) (by decide) sc_bar_ranks.nd rfl (.inl rfl) (se_tup (sa_cons (se_get2 rfl (Room.u1 hr) (se_var (pv 4)) (se_var (pv 7)) se_int ⟨rfl, rfl, rfl, rfl⟩) (sa_cons (se_get2 rfl (Room.u1 hr) (se_var (pv 5)) (se_var (pv 7)) se_int ⟨rfl, rfl, rfl, rfl⟩) sa_nil))))
    (sb_one (ss_if (SW.st (sw_or (st_val (se_callDS O_changes_above rfl hG hr (by decide) (by rfl) T.m_changes_above T.F_changes_above.kp T.b_changes_above (sr_star rfl (se_var (pv 8)) (sr_cons (se_var (pv 6)) sr_nil)))) (sw_or1 (SW.st (sw_and (st_c (c_ne rfl hr.units) (se_var (pv 7)) (SE.V (se_var (pv 2))) (nomark _)) (sw_and1 (st_val (se_callDS O_takes_from_equal rfl hG hr (by decide) (by rfl) T.m_takes_from_equal T.F_takes_from_equal.kp T.b_takes_from_equal (sr_star rfl (se_var (pv 8)) (sr_cons (se_var (pv 6)) sr_nil))))))))))
      (sb_one (ss_ret se_str)) sb_nil))))
    (sb_cons (ss_for (g := (gName 9)) (mg := (mgName 9)) PassesOwn.never rfl (si_tup (se_glob (v := .ref T.a_WORDS) (by rfl) T.m_WORDS rfl T.r_WORDS) rfl) (pg_name (i := 9) sc_bar_ranks.nd rfl (.inl rfl)) (sg_name (by decide))
      (sb_one (ss_if (st_val (se_callD O_changes_above rfl hG hr (by decide) (by rfl) T.m_changes_above T.F_changes_above.kp T.b_changes_above (sr_cons (se_callD O_wanted_in rfl hG hr (by decide) (by rfl) T.m_wanted_in T.F_wanted_in.kp T.b_wanted_in (sr_cons (se_var (pv 0)) (sr_cons (se_var (pv 1)) (sr_cons (se_var (pv 9)) sr_nil)))) (sr_cons (se_callD O_wanted_by rfl hG hr (by decide) (by rfl) T.m_wanted_by T.F_wanted_by.kp T.b_wanted_by (sr_cons (se_var (pv 3)) (sr_cons (se_var (pv 9)) sr_nil))) (sr_cons (se_var (pv 6)) sr_nil)))))
      (sb_one (ss_ret se_str)) sb_nil)))
    (sb_one (ss_ret se_non))))))))
def b_bar_strike : MS := (sSeq (sSet 4 (mOp oIx (mCall F_body_for 0 (rCons (mVar 0) (rCons (mVar 1) (rCons (mC k_BEGIN_KEY) (rCons (mC .none) rNil))))) (mC (.int 0))))
    (sSeq (sIf (mAnd (mTest (mOp oEq (mVar 4) (mC (.int 2)))) (mTest (mOp oEq (mOp oIx (mVar 3) (mC (.int 0))) (mCall F_house_of 0 (rCons (mVar 2) rNil)))))
      (sRet (mC .none))
      sNext)
    (sRet (mCall F_bar_less 0 (rCons (mVar 0) (rCons (mVar 1) (rCons (mVar 2) (rCons (mC (.str "strike")) rNil))))))))
def F_bar_strike : Fs := Fof 4 1 0 b_bar_strike
theorem d_bar_strike {P : Program} {w : World} {K : PySem.W.Frag} {mg : Str → Option Value} {base : Heap} (T : Txt K mg) : FnD P w K mg base 5 T.f_bar_strike T.d_bar_strike ["hall", "state", "who", "struck"] 0 F_bar_strike := by
  have O_bar_less := d_bar_less (P := P) (w := w) (base := base) T
  have O_body_for := d_body_for (P := P) (w := w) (base := base) T
  have O_house_of := d_house_of (P := P) (w := w) (base := base) T
  refine fn_of T.F_bar_strike sc_bar_strike (by decide) rfl rfl fun cdv Ar out s0 H E hG hr => ?_
  exact (sb_cons (ss_set (i := 4) (by decide) sc_bar_strike.nd rfl (.inl rfl) (se_item rfl (Room.u1 hr) (se_callD O_body_for rfl hG hr (by decide) (by rfl) T.m_body_for T.F_body_for.kp T.b_body_for (sr_cons (se_var (pv 0)) (sr_cons (se_var (pv 1)) (sr_cons (se_glob (v := .ref T.a_BEGIN_KEY) (by rfl) T.m_BEGIN_KEY rfl T.r_BEGIN_KEY) (sr_cons se_non sr_nil))))) (SE.V se_int) (fun _ _ => rfl)))
    (sb_cons (ss_if (SW.st (sw_and (st_c (c_eq rfl hr.units) (se_var (pv 4)) (SE.V (se_glob (v := .int 2) (d := .int 2) (by rfl) T.c_OWN_STRIKES_RULES ⟨_, rfl⟩ (fun _ => .int _))) (nomark _)) (sw_and1 (st_c (c_eq rfl hr.units) (se_item rfl (Room.u1 hr) (se_var (pv 3)) (SE.V se_int) (fun _ _ => rfl)) (SE.V (se_callD O_house_of rfl hG hr (by decide) (by rfl) T.m_house_of T.F_house_of.kp T.b_house_of (sr_cons (se_var (pv 2)) sr_nil))) (nomark _)))))
      (sb_one (ss_ret se_non)) sb_nil)
    (sb_one (ss_ret (se_callD O_bar_less rfl hG hr (by decide) (by rfl) T.m_bar_less T.F_bar_less.kp T.b_bar_less (sr_cons (se_var (pv 0)) (sr_cons (se_var (pv 1)) (sr_cons (se_var (pv 2)) (sr_cons se_str sr_nil)))))))))
def b_bar : MS := (sSeq (sAsg (mTup (aCons (mOp oIx (mVar 2) (mC (.int 1))) (aCons (mOp oIx (mVar 2) (mC (.int 2))) (aCons (mOp oIx (mVar 2) (mC (.int 3))) (aCons (mOp oIx (mVar 2) (mC (.int 4))) aNil))))) (mgTup 4 (mgCons (mgName 3) (mgCons (mgName 4) (mgCons (mgName 5) (mgCons (mgName 6) mgNil))))))
    (sSeq (sIf (mTest (mOp oEq (mVar 3) (mC (.str "begin"))))
      (sRet (mIfE (mTest (mOp oGt (mUn oLen (mVar 1)) (mC (.int 0)))) (mC (.str "begun")) (mC .none)))
      sNext)
    (sSeq (sIf (mTest (mOp (oIn true) (mC k_BEGIN_KEY) (mVar 1)))
      (sRet (mC (.str "unbegun")))
      sNext)
    (sSeq (sIf (mTest (mOp oEq (mVar 3) (mC (.str "seat"))))
      (sRet (mCall F_bar_seat 0 (rCons (mVar 0) (rCons (mVar 1) (rCons (mVar 4) (rCons (mVar 5) (rCons (mVar 6) rNil)))))))
      sNext)
    (sSeq (sIf (mTest (mOp oNe (mCall F_seat_in 0 (rCons (mVar 0) (rCons (mVar 1) (rCons (mVar 4) rNil)))) (mC (.str "in"))))
      (sRet (mC (.str "seat")))
      sNext)
    (sSeq (sIf (mTest (mOp oEq (mVar 3) (mC (.str "ranks"))))
      (sRet (mCall F_bar_ranks 0 (rCons (mVar 0) (rCons (mVar 1) (rCons (mVar 4) (rCons (mVar 6) rNil))))))
      sNext)
    (sSeq (sIf (mTest (mOp oEq (mVar 3) (mC (.str "strike"))))
      (sRet (mCall F_bar_strike 0 (rCons (mVar 0) (rCons (mVar 1) (rCons (mVar 4) (rCons (mVar 6) rNil))))))
      sNext)
    (sRet (mCall F_bar_less 0 (rCons (mVar 0) (rCons (mVar 1) (rCons (mVar 4) (rCons (mVar 3) rNil)))))))))))))
def F_bar : Fs := Fof 3 4 0 b_bar
theorem d_bar {P : Program} {w : World} {K : PySem.W.Frag} {mg : Str → Option Value} {base : Heap} (T : Txt K mg) : FnD P w K mg base 7 T.f_bar T.d_bar ["hall", "state", "deed"] 0 F_bar := by
  have O_bar_less := d_bar_less (P := P) (w := w) (base := base) T
  have O_bar_ranks := d_bar_ranks (P := P) (w := w) (base := base) T
  have O_bar_seat := d_bar_seat (P := P) (w := w) (base := base) T
  have O_bar_strike := d_bar_strike (P := P) (w := w) (base := base) T
  have O_seat_in := d_seat_in (P := P) (w := w) (base := base) T
  refine fn_of T.F_bar sc_bar (by decide) rfl rfl fun cdv Ar out s0 H E hG hr => ?_
  exact (sb_cons (ss_asg (g := (gTup K 4 (gCons (gName 3) (gCons (gName 4) (gCons (gName 5) (gCons (gName 6) gNil)))))) (mg := (mgTup 4 (mgCons (mgName 3) (mgCons (mgName 4) (mgCons (mgName 5) (mgCons (mgName 6) mgNil)))))) (se_tup (sa_cons (se_item rfl (Room.u1 hr) (se_var (pv 2)) (SE.V (se_glob (v := .int 1) (d := .int 1) (by rfl) T.c_KIND ⟨_, rfl⟩ (fun _ => .int _))) (fun _ _ => rfl)) (sa_cons (se_item rfl (Room.u1 hr) (se_var (pv 2)) (SE.V (se_glob (v := .int 2) (d := .int 2) (by rfl) T.c_WHO ⟨_, rfl⟩ (fun _ => .int _))) (fun _ _ => rfl)) (sa_cons (se_item rfl (Room.u1 hr) (se_var (pv 2)) (SE.V (se_glob (v := .int 3) (d := .int 3) (by rfl) T.c_ABOUT ⟨_, rfl⟩ (fun _ => .int _))) (fun _ _ => rfl)) (sa_cons (se_item rfl (Room.u1 hr) (se_var (pv 2)) (SE.V (se_glob (v := .int 4) (d := .int 4) (by rfl) T.c_BODY ⟨_, rfl⟩ (fun _ => .int _))) (fun _ _ => rfl)) sa_nil))))) (pg_tup rfl (pgs_cons (pg_name (i := 3) sc_bar.nd rfl (.inl rfl)) (pgs_cons (pg_name (i := 4) sc_bar.nd rfl (.inl rfl)) (pgs_cons (pg_name (i := 5) sc_bar.nd rfl (.inl rfl)) (pgs_cons (pg_name (i := 6) sc_bar.nd rfl (.inl rfl)) pgs_nil))))) (sg_tup (sgs_cons (sg_name (by decide)) (sgs_cons (sg_name (by decide)) (sgs_cons (sg_name (by decide)) (sgs_cons (sg_name (by decide)) sgs_nil))))))
    (sb_cons (ss_if (st_c (c_eq rfl hr.units) (se_var (pv 3)) (SE.V se_str) (nomark _))
      (sb_one (ss_ret (se_if (st_c (c_gt rfl) (se_len rfl (by rfl) T.z_len (SE.V (se_var (pv 1)))) (SE.V se_int) (nomark _)) se_str se_non keepE))) sb_nil)
    (sb_cons (ss_if (st_c (c_notIn rfl (Room.u65 hr)) (se_glob (v := .ref T.a_BEGIN_KEY) (by rfl) T.m_BEGIN_KEY rfl T.r_BEGIN_KEY) (SE.V (se_var (pv 1))) (by rfl))
      (sb_one (ss_ret se_str)) sb_nil)
    (sb_cons (ss_if (st_c (c_eq rfl hr.units) (se_var (pv 3)) (SE.V se_str) (nomark _))
      (sb_one (ss_ret (se_callD O_bar_seat rfl hG hr (by decide) (by rfl) T.m_bar_seat T.F_bar_seat.kp T.b_bar_seat (sr_cons (se_var (pv 0)) (sr_cons (se_var (pv 1)) (sr_cons (se_var (pv 4)) (sr_cons (se_var (pv 5)) (sr_cons (se_var (pv 6)) sr_nil)))))))) sb_nil)
    (sb_cons (ss_if (st_c (c_ne rfl hr.units) (se_callD O_seat_in rfl hG hr (by decide) (by rfl) T.m_seat_in T.F_seat_in.kp T.b_seat_in (sr_cons (se_var (pv 0)) (sr_cons (se_var (pv 1)) (sr_cons (se_var (pv 4)) sr_nil)))) (SE.V se_str) (nomark _))
      (sb_one (ss_ret se_str)) sb_nil)
    (sb_cons (ss_if (st_c (c_eq rfl hr.units) (se_var (pv 3)) (SE.V se_str) (nomark _))
      (sb_one (ss_ret (se_callD O_bar_ranks rfl hG hr (by decide) (by rfl) T.m_bar_ranks T.F_bar_ranks.kp T.b_bar_ranks (sr_cons (se_var (pv 0)) (sr_cons (se_var (pv 1)) (sr_cons (se_var (pv 4)) (sr_cons (se_var (pv 6)) sr_nil))))))) sb_nil)
    (sb_cons (ss_if (st_c (c_eq rfl hr.units) (se_var (pv 3)) (SE.V se_str) (nomark _))
      (sb_one (ss_ret (se_callD O_bar_strike rfl hG hr (by decide) (by rfl) T.m_bar_strike T.F_bar_strike.kp T.b_bar_strike (sr_cons (se_var (pv 0)) (sr_cons (se_var (pv 1)) (sr_cons (se_var (pv 4)) (sr_cons (se_var (pv 6)) sr_nil))))))) sb_nil)
    (sb_one (ss_ret (se_callD O_bar_less rfl hG hr (by decide) (by rfl) T.m_bar_less T.F_bar_less.kp T.b_bar_less (sr_cons (se_var (pv 0)) (sr_cons (se_var (pv 1)) (sr_cons (se_var (pv 4)) (sr_cons (se_var (pv 3)) sr_nil))))))))))))))
end K20

namespace K20
open PySem PySem.Spec PyProof.Rows L2 Br Dl
def b_law_pool : MS := (sSeqF (sSet 2 (mC (.int 0)))
    (sSeqF (sIf (mTest (mOp oLt (mVar 1) (mUn oLen (mVar 0))))
      (sSet 2 (mOp oIx (mVar 0) (mVar 1)))
      sNext)
    (sSeqF (sSet 3 (mOn oMax (aCons (mVar 2) (aCons (mOp oSub (mUn oNeg (mC (.int 1))) (mVar 2)) aNil))))
    (sSeqF (sSet 4 (mOp oMod (mOp oMul (mOp oAdd (mOp oAdd (mOp oAdd (mOp oMod (mVar 3) (mC (.int 2147483629))) (mOp oMul (mOp oMul (mC (.int 7919)) (mVar 1)) (mVar 1))) (mOp oMul (mC (.int 31)) (mVar 1))) (mC (.int 17))) (mC (.int 48271))) (mC (.int 2147483647))))
    (sRet (mLst (aCons (mOp oMul (mVar 3) (mUn oInt (mOp oGe (mVar 3) (mOp oPow (mC (.int 10)) (mC (.int 18)))))) (aCons (mVar 4) aNil))))))))
def F_law_pool : Ff := FofF 2 3 b_law_pool
theorem d_law_pool {P : Program} {w : World} {K : PySem.W.Frag} {mg : Str → Option Value} {base : Heap} (T : Txt K mg) : FnF P w K mg base 1 T.f_law_pool T.d_law_pool ["_law_script", "_law_k"] F_law_pool := by
  refine fn_ofF T.F_law_pool sc_law_pool rfl rfl (fun cdv Ar out s0 H E hG hr => ?_)
  exact (sbf_cons (ss_set (i := 2) (by decide) sc_law_pool.nd rfl (.inl rfl) se_int)
    (sbf_cons (ss_if (st_c (c_lt rfl) (se_var (pv 1)) (SE.V (se_len rfl (by rfl) T.z_len (SE.V (se_var (pv 0))))) (nomark _))
      (sb_one (ss_set (i := 2) (by decide) sc_law_pool.nd rfl (.inl rfl) (se_item rfl (Room.u1 hr) (se_var (pv 0)) (SE.V (se_var (pv 1))) (fun _ _ => rfl)))) sb_nil)
    (sbf_cons (ss_set (i := 3) (by decide) sc_law_pool.nd rfl (.inl rfl) (se_max rfl rfl (by rfl) T.z_max (sa_cons (se_var (pv 2)) (sa_cons (se_sub rfl (se_neg rfl (SE.V se_int)) (SE.V (se_var (pv 2)))) sa_nil))))
    (sbf_cons (ss_set (i := 4) (by decide) sc_law_pool.nd rfl (.inl rfl) (se_mod rfl (se_mul rfl (se_add rfl (se_add rfl (se_add rfl (se_mod rfl (se_var (pv 3)) (SE.V se_int)) (SE.V (se_mul rfl (se_mul rfl se_int (SE.V (se_var (pv 1)))) (SE.V (se_var (pv 1)))))) (SE.V (se_mul rfl se_int (SE.V (se_var (pv 1)))))) (SE.V se_int)) (SE.V se_int)) (SE.V se_int)))
    (sbf_ret (se_lst (sa_cons (se_mul rfl (se_var (pv 3)) (SE.V (se_int_of (by rfl) T.z_int (SE.V (se_c (c_ge rfl) (se_var (pv 3)) (SE.V (se_pow rfl se_int (SE.V se_int))) (nomark _)))))) (sa_cons (se_var (pv 4)) sa_nil))))))))
def b_law_take : MS := (sSeq (sIf (mTest (mOp oGt (mOpO oIx 0 (mC (.int 0))) (mC (.int 0))))
      (sSeq (sSet 2 (mOp oMod (mOpO oIx 0 (mC (.int 0))) (mVar 1)))
    (sSeq (sPut 0 (mOp oFdiv (mOpO oIx 0 (mC (.int 0))) (mVar 1)) (mC (.int 0)))
    (sRet (mVar 2))))
      sNext)
    (sSeq (sPut 0 (mOp oMod (mOp oAdd (mOp oMul (mOpO oIx 0 (mC (.int 1))) (mC (.int 69621))) (mC (.int 7))) (mC (.int 2147483647))) (mC (.int 1)))
    (sRet (mOp oMod (mOp oFdiv (mOp oMod (mOp oMul (mOpO oIx 0 (mC (.int 1))) (mOpO oIx 0 (mC (.int 1)))) (mC (.int 2147483629))) (mC (.int 32))) (mVar 1)))))
def F_law_take : Fs := Fof 2 1 1 b_law_take
theorem d_law_take {P : Program} {w : World} {K : PySem.W.Frag} {mg : Str → Option Value} {base : Heap} (T : Txt K mg) : FnD P w K mg base 1 T.f_law_take T.d_law_take ["_law_pool_here", "_law_many"] 1 F_law_take := by
  refine fn_of T.F_law_take sc_law_take (by decide) rfl rfl fun cdv Ar out s0 H E hG hr => ?_
  exact (sb_cons (ss_if (st_c (c_gt rfl) (se_itemO rfl (Room.u1 hr) (pv 0) (SE.V se_int) (fun _ _ => rfl)) (SE.V se_int) (nomark _))
      (sb_cons (ss_set (i := 2) (by decide) sc_law_take.nd rfl (.inl rfl) (se_mod rfl (se_itemO rfl (Room.u1 hr) (pv 0) (SE.V se_int) (fun _ _ => rfl)) (SE.V (se_var (pv 1)))))
    (sb_cons (ss_put (i := 0) rfl hr (pv 0) (se_fdiv rfl (se_itemO rfl (Room.u1 hr) (pv 0) (SE.V se_int) (fun _ _ => rfl)) (SE.V (se_var (pv 1)))) se_int)
    (sb_one (ss_ret (se_var (pv 2)))))) sb_nil)
    (sb_cons (ss_put (i := 0) rfl hr (pv 0) (se_mod rfl (se_add rfl (se_mul rfl (se_itemO rfl (Room.u1 hr) (pv 0) (SE.V se_int) (fun _ _ => rfl)) (SE.V se_int)) (SE.V se_int)) (SE.V se_int)) se_int)
    (sb_one (ss_ret (se_mod rfl (se_fdiv rfl (se_mod rfl (se_mul rfl (se_itemO rfl (Room.u1 hr) (pv 0) (SE.V se_int) (fun _ _ => rfl)) (SE.V (se_itemO rfl (Room.u1 hr) (pv 0) (SE.V se_int) (fun _ _ => rfl)))) (SE.V se_int)) (SE.V se_int)) (SE.V (se_var (pv 1))))))))
def b_law_letters : MS := (sSeq (sSet 2 (mC (.str "abcdefghijklmnopqrstuvwxyz")))
    (sRet (mJoin (mC (.str "")) (mLc (mRng1 (aCons (mVar 1) aNil)) (mgName 3) mYes (mOp oIx (mVar 2) (mCall F_law_take 1 (rOwn 0 (rCons (mC (.int 26)) rNil)))) [3]))))
def F_law_letters : Fs := Fof 2 2 1 b_law_letters
theorem d_law_letters {P : Program} {w : World} {K : PySem.W.Frag} {mg : Str → Option Value} {base : Heap} (T : Txt K mg) : FnD P w K mg base 2 T.f_law_letters T.d_law_letters ["_law_pool_here", "_law_many"] 1 F_law_letters := by
  have O_law_take := d_law_take (P := P) (w := w) (base := base) T
  refine fn_of T.F_law_letters sc_law_letters (by decide) rfl rfl fun cdv Ar out s0 H E hG hr => ?_
  exact (sb_cons (ss_set (i := 2) (by decide) sc_law_letters.nd rfl (.inr rfl) se_str)
    (sb_one (ss_ret (se_join rfl se_str (SE.FV (se_lc (own := [("_law_turn", 3)]) (g := (gName 3)) (mg := (mgName 3)) (mt := mYes) (me := (mOp oIx (mVar 2) (mCall F_law_take 1 (rOwn 0 (rCons (mC (.int 26)) rNil))))) rfl sc_law_letters.nd (si_range1 (by rfl) T.z_range (sa_cons (se_var (pv 1)) sa_nil)) (blkOk_by (own := [("_law_turn", 3)]) (N := ["_law_pool_here", "_law_many", "_law_letters_here", "_law_turn"]) (sc := defScope s_law_letters) (by decide +kernel)) (fun _ _ _ _ _ => (pg_name (i := 3) sc_law_letters.nd rfl (Or.inl rfl))) (sg_name (by decide)) (by decide) (fun _ _ _ _ _ => sts_nil) (fun _ _ _ _ _ => (se_item rfl (Room.u1 hr) (se_var (pv 2)) (SE.V (se_callD O_law_take rfl hG hr (by decide) (by rfl) T.m_law_take T.F_law_take.kp T.b_law_take (sr_own (pv 0) (sr_cons se_int sr_nil)))) (fun _ _ => rfl)))))))))
end K20

namespace K20
open PySem PySem.Spec PyProof.Rows L2 Br Dl
def b_law_folk : MS := (sSeq (mFro 2 (sSetO 2 (mLc (mRng1 (aCons (mC (.int 2)) aNil)) (mgName 3) mYes (mCall F_law_letters 1 (rOwn 0 (rCons (mOp oAdd (mC (.int 1)) (mCall F_law_take 1 (rOwn 0 (rCons (mC (.int 3)) rNil)))) rNil))) [3])))
    (sSeq (sSetO 4 (mLst aNil))
    (sSeq (sFor (mRng1 (aCons (mVar 1) aNil)) (mgName 5)
      (sSeq (sSet 6 (mOp oAdd (mCall F_law_letters 1 (rOwn 0 (rCons (mOp oAdd (mC (.int 1)) (mCall F_law_take 1 (rOwn 0 (rCons (mC (.int 2)) rNil)))) rNil))) (mOp oIx (mC (.str "xyzuvw")) (mVar 5))))
    (sAppend 4 (mOp oAdd (mOp oAdd (mVar 6) (mC (.str "@"))) (mOp oIx (mVar 2) (mCall F_law_take 1 (rOwn 0 (rCons (mC (.int 2)) rNil))))))))
    (sSeq (sIf (mAnd (mTest (mOp oNe (mOp oIx (mVar 2) (mC (.int 0))) (mOp oIx (mVar 2) (mC (.int 1))))) (mTest (mOp oEq (mCall F_law_take 1 (rOwn 0 (rCons (mC (.int 3)) rNil))) (mC (.int 0)))))
      (sSeq (sSet 7 (mSplit (mOpO oIx 4 (mC (.int 1))) (mC (.str "@"))))
    (sPut 4 (mOp oAdd (mOp oAdd (mOp oIx (mVar 7) (mC (.int 0))) (mC (.str "@"))) (mOp oIx (mVar 2) (mUn oInt (mOp oEq (mOp oIx (mVar 7) (mC (.int 1))) (mOp oIx (mVar 2) (mC (.int 0))))))) (mUn oNeg (mC (.int 1)))))
      sNext)
    (sRet (mFrz 4))))))
def F_law_folk : Fs := Fof 2 6 1 b_law_folk
theorem d_law_folk {P : Program} {w : World} {K : PySem.W.Frag} {mg : Str → Option Value} {base : Heap} (T : Txt K mg) : FnD P w K mg base 3 T.f_law_folk T.d_law_folk ["_law_pool_here", "_law_many"] 1 F_law_folk := by
  have O_law_letters := d_law_letters (P := P) (w := w) (base := base) T
  have O_law_take := d_law_take (P := P) (w := w) (base := base) T
  refine fn_of T.F_law_folk sc_law_folk (by decide) rfl rfl fun cdv Ar out s0 H E hG hr => ?_
  exact (sb_cons (SS.fro (i := 2) (ss_setLc (i := 2) (own := [("_law_turn", 3)]) (g := (gName 3)) (mg := (mgName 3)) (mt := mYes) (me := (mCall F_law_letters 1 (rOwn 0 (rCons (mOp oAdd (mC (.int 1)) (mCall F_law_take 1 (rOwn 0 (rCons (mC (.int 3)) rNil)))) rNil)))) (by decide) rfl sc_law_folk.nd rfl rfl (sw_true rfl rfl rfl (by decide +kernel)) (si_range1 (by rfl) T.z_range (sa_cons se_int sa_nil)) (blkOk_by (own := [("_law_turn", 3)]) (N := ["_law_pool_here", "_law_many", "_law_homes", "_law_turn", "_law_found", "_law_k", "_law_one", "_law_parts"]) (sc := defScope s_law_folk) (by decide +kernel)) (fun _ _ _ _ _ => (pg_name (i := 3) sc_law_folk.nd rfl (Or.inl rfl))) (sg_name (by decide)) (by decide) (fun _ _ _ _ _ => sts_nil) (fun _ _ _ _ _ => (se_callD O_law_letters rfl hG hr (by decide) (by rfl) T.m_law_letters T.F_law_letters.kp T.b_law_letters (sr_own (pv 0) (sr_cons (se_add rfl se_int (SE.V (se_callD O_law_take rfl hG hr (by decide) (by rfl) T.m_law_take T.F_law_take.kp T.b_law_take (sr_own (pv 0) (sr_cons se_int sr_nil))))) sr_nil))))))
    (sb_cons (ss_setO (i := 4) (by decide) sc_law_folk.nd rfl (.inl rfl) (se_lst sa_nil))
    (sb_cons (ss_for (g := (gName 5)) (mg := (mgName 5)) PassesOwn.never rfl (si_range1 (by rfl) T.z_range (sa_cons (se_var (pv 1)) sa_nil)) (pg_name (i := 5) sc_law_folk.nd rfl (.inl rfl)) (sg_name (by decide))
      (sb_cons (ss_set (i := 6) (by decide) sc_law_folk.nd rfl (.inl rfl) (se_add rfl (se_callD O_law_letters rfl hG hr (by decide) (by rfl) T.m_law_letters T.F_law_letters.kp T.b_law_letters (sr_own (pv 0) (sr_cons (se_add rfl se_int (SE.V (se_callD O_law_take rfl hG hr (by decide) (by rfl) T.m_law_take T.F_law_take.kp T.b_law_take (sr_own (pv 0) (sr_cons se_int sr_nil))))) sr_nil))) (SE.V (se_item rfl (Room.u1 hr) se_str (SE.V (se_var (pv 5))) (fun _ _ => rfl)))))
    (sb_one (ss_append (i := 4) rfl (pv 4) (se_add rfl (se_add rfl (se_var (pv 6)) (SE.V se_str)) (SE.V (se_item rfl (Room.u1 hr) (se_var (pv 2)) (SE.V (se_callD O_law_take rfl hG hr (by decide) (by rfl) T.m_law_take T.F_law_take.kp T.b_law_take (sr_own (pv 0) (sr_cons se_int sr_nil)))) (fun _ _ => rfl))))))))
    (sb_cons (ss_if (SW.st (sw_and (st_c (c_ne rfl hr.units) (se_item rfl (Room.u1 hr) (se_var (pv 2)) (SE.V se_int) (fun _ _ => rfl)) (SE.V (se_item rfl (Room.u1 hr) (se_var (pv 2)) (SE.V se_int) (fun _ _ => rfl))) (nomark _)) (sw_and1 (st_c (c_eq rfl hr.units) (se_callD O_law_take rfl hG hr (by decide) (by rfl) T.m_law_take T.F_law_take.kp T.b_law_take (sr_own (pv 0) (sr_cons se_int sr_nil))) (SE.V se_int) (nomark _)))))
      (sb_cons (ss_set (i := 7) (by decide) sc_law_folk.nd rfl (.inl rfl) (SE.F (se_split rfl (se_itemO rfl (Room.u1 hr) (pv 4) (SE.V se_int) (fun _ _ => rfl)) se_str)))
    (sb_one (ss_put (i := 4) rfl hr (pv 4) (se_add rfl (se_add rfl (se_item rfl (Room.u1 hr) (se_var (pv 7)) (SE.V se_int) (fun _ _ => rfl)) (SE.V se_str)) (SE.V (se_item rfl (Room.u1 hr) (se_var (pv 2)) (SE.V (se_int_of (by rfl) T.z_int (SE.V (se_c (c_eq rfl hr.units) (se_item rfl (Room.u1 hr) (se_var (pv 7)) (SE.V se_int) (fun _ _ => rfl)) (SE.V (se_item rfl (Room.u1 hr) (se_var (pv 2)) (SE.V se_int) (fun _ _ => rfl))) (nomark _))))) (fun _ _ => rfl)))) (se_neg rfl (SE.V se_int))))) sb_nil)
    (sb_one (ss_ret (se_frz (pv 4))))))))
end K20

namespace K20
open PySem PySem.Spec PyProof.Rows L2 Br Dl
def b_law_rank_rows : MS := (sSeq (sSet 2 (mLst (aCons (mC (.int 0)) (aCons (mOp oAdd (mC (.int 1)) (mCall F_law_take 1 (rOwn 0 (rCons (mC (.int 98)) rNil)))) (aCons (mC (.int 50)) (aCons (mC (.int 50)) (aCons (mC (.int 99)) (aCons (mC (.int 100)) aNil))))))))
    (sSeq (sSet 3 (mUn oSorted_pairs (mLc (mItems dLst (mVar 1)) (mgName 4) (mTest (mOp oGt (mCall F_law_take 1 (rOwn 0 (rCons (mC (.int 4)) rNil))) (mC (.int 0)))) (mTup (aCons (mVar 4) (aCons (mOp oIx (mVar 2) (mCall F_law_take 1 (rOwn 0 (rCons (mC (.int 6)) rNil)))) aNil))) [4])))
    (sSeq (sSet 5 (mLst (aCons (mC (.str "bar")) (aCons (mC (.str "call")) (aCons (mC (.str "door")) (aCons (mC (.str "move")) (aCons (mC (.str "out")) (aCons (mC (.str "ranks")) (aCons (mC (.str "say")) (aCons (mC (.str "strike")) aNil))))))))))
    (sRet (mTup (aCons (mUn oTupOf (mVar 3)) (aCons (mUn oTupOf (mLc (mItems dLst (mVar 5)) (mgName 6) (mTest (mOp oEq (mCall F_law_take 1 (rOwn 0 (rCons (mC (.int 3)) rNil))) (mC (.int 0)))) (mTupZ (aCons (mVar 6) (aCons (mOp oIx (mVar 2) (mCall F_law_take 1 (rOwn 0 (rCons (mC (.int 6)) rNil)))) aNil))) [6])) aNil)))))))
def F_law_rank_rows : Fs := Fof 2 5 1 b_law_rank_rows
theorem d_law_rank_rows {P : Program} {w : World} {K : PySem.W.Frag} {mg : Str → Option Value} {base : Heap} (T : Txt K mg) : FnD P w K mg base 2 T.f_law_rank_rows T.d_law_rank_rows ["_law_pool_here", "_law_folk_here"] 1 F_law_rank_rows := by
  have O_law_take := d_law_take (P := P) (w := w) (base := base) T
  refine fn_of T.F_law_rank_rows sc_law_rank_rows (by decide) rfl rfl fun cdv Ar out s0 H E hG hr => ?_
  exact (sb_cons (ss_set (i := 2) (by decide) sc_law_rank_rows.nd rfl (.inr rfl) (SE.F (se_lst (sa_cons se_int (sa_cons (se_add rfl se_int (SE.V (se_callD O_law_take rfl hG hr (by decide) (by rfl) T.m_law_take T.F_law_take.kp T.b_law_take (sr_own (pv 0) (sr_cons se_int sr_nil))))) (sa_cons se_int (sa_cons se_int (sa_cons se_int (sa_cons se_int sa_nil)))))))))
    (sb_cons (ss_set (i := 3) (by decide) sc_law_rank_rows.nd rfl (.inl rfl) (SE.F (se_sorted_pairs rfl hr (by rfl) T.z_sorted (SE.FV (se_lc (own := [("_law_one", 4)]) (g := (gName 4)) (mg := (mgName 4)) (mt := (mTest (mOp oGt (mCall F_law_take 1 (rOwn 0 (rCons (mC (.int 4)) rNil))) (mC (.int 0))))) (me := (mTup (aCons (mVar 4) (aCons (mOp oIx (mVar 2) (mCall F_law_take 1 (rOwn 0 (rCons (mC (.int 6)) rNil)))) aNil)))) rfl sc_law_rank_rows.nd (si_list (se_var (pv 1)) rfl) (blkOk_by (own := [("_law_one", 4)]) (N := ["_law_pool_here", "_law_folk_here", "_law_ranks", "_law_some", "_law_one", "_law_words", "_law_term"]) (sc := defScope s_law_rank_rows) (by decide +kernel)) (fun _ _ _ _ _ => (pg_name (i := 4) sc_law_rank_rows.nd rfl (Or.inl rfl))) (sg_name (by decide)) (by decide) (fun _ _ _ _ _ => sts_one (st_c (c_gt rfl) (se_callD O_law_take rfl hG hr (by decide) (by rfl) T.m_law_take T.F_law_take.kp T.b_law_take (sr_own (pv 0) (sr_cons se_int sr_nil))) (SE.V se_int) (nomark _))) (fun _ _ _ _ _ => (se_tup (sa_cons (se_var (pv 4)) (sa_cons (se_item rfl (Room.u1 hr) (se_var (pv 2)) (SE.V (se_callD O_law_take rfl hG hr (by decide) (by rfl) T.m_law_take T.F_law_take.kp T.b_law_take (sr_own (pv 0) (sr_cons se_int sr_nil)))) (fun _ _ => rfl)) sa_nil)))))))))
    (sb_cons (ss_set (i := 5) (by decide) sc_law_rank_rows.nd rfl (.inl rfl) (SE.F (se_lst (sa_cons se_str (sa_cons se_str (sa_cons se_str (sa_cons se_str (sa_cons se_str (sa_cons se_str (sa_cons se_str (sa_cons se_str sa_nil)))))))))))
    (sb_one (ss_ret (se_tup (sa_cons (se_tuple_of rfl (by rfl) T.z_tuple (SE.V (se_var (pv 3)))) (sa_cons (se_tuple_of rfl (by rfl) T.z_tuple (SE.FV (se_lc (own := [("_law_term", 6)]) (g := (gName 6)) (mg := (mgName 6)) (mt := (mTest (mOp oEq (mCall F_law_take 1 (rOwn 0 (rCons (mC (.int 3)) rNil))) (mC (.int 0))))) (me := (mTupZ (aCons (mVar 6) (aCons (mOp oIx (mVar 2) (mCall F_law_take 1 (rOwn 0 (rCons (mC (.int 6)) rNil)))) aNil)))) rfl sc_law_rank_rows.nd (si_list (se_var (pv 5)) rfl) (blkOk_by (own := [("_law_term", 6)]) (N := ["_law_pool_here", "_law_folk_here", "_law_ranks", "_law_some", "_law_one", "_law_words", "_law_term"]) (sc := defScope s_law_rank_rows) (by decide +kernel)) (fun _ _ _ _ _ => (pg_name (i := 6) sc_law_rank_rows.nd rfl (Or.inl rfl))) (sg_name (by decide)) (by decide) (fun _ _ _ _ _ => sts_one (st_c (c_eq rfl hr.units) (se_callD O_law_take rfl hG hr (by decide) (by rfl) T.m_law_take T.F_law_take.kp T.b_law_take (sr_own (pv 0) (sr_cons se_int sr_nil))) (SE.V se_int) (nomark _))) (fun _ _ _ _ _ => (se_tupZ (sa_cons (se_var (pv 6)) (sa_cons (se_item rfl (Room.u1 hr) (se_var (pv 2)) (SE.V (se_callD O_law_take rfl hG hr (by decide) (by rfl) T.m_law_take T.F_law_take.kp T.b_law_take (sr_own (pv 0) (sr_cons se_int sr_nil)))) (fun _ _ => rfl)) sa_nil))))))) sa_nil))))))))
def b_law_add : MS := (sSeq (sSet 5 (mTup (aCons (mOp oIx (mSplit (mVar 2) (mC (.str "@"))) (mC (.int 1))) (aCons (mUn oLen (mOwn 0)) aNil))))
    (sSeq (sSet 6 (mUn oTupOf (mSlice (mUn oKeys (mOwn 0)) pNo (pSome (mC (.int 1))))))
    (sSeq (sPut 0 (mTup (aCons (mVar 5) (aCons (mVar 1) (aCons (mVar 2) (aCons (mVar 3) (aCons (mVar 4) (aCons (mVar 6) (aCons (mVar 6) aNil)))))))) (mVar 5))
    (sRet (mVar 5)))))
def F_law_add : Fs := Fof 5 2 1 b_law_add
theorem d_law_add {P : Program} {w : World} {K : PySem.W.Frag} {mg : Str → Option Value} {base : Heap} (T : Txt K mg) : FnD P w K mg base 1 T.f_law_add T.d_law_add ["_law_web", "_law_sort", "_law_one", "_law_other", "_law_told"] 1 F_law_add := by
  refine fn_of T.F_law_add sc_law_add (by decide) rfl rfl fun cdv Ar out s0 H E hG hr => ?_
  exact (sb_cons (ss_set (i := 5) (by decide) sc_law_add.nd rfl (.inl rfl) (se_tup (sa_cons (se_item rfl (Room.u1 hr) (SE.F (se_split rfl (se_var (pv 2)) se_str)) (SE.V se_int) (fun _ _ => rfl)) (sa_cons (se_len rfl (by rfl) T.z_len (se_own (pv 0))) sa_nil))))
    (sb_cons (ss_set (i := 6) (by decide) sc_law_add.nd rfl (.inl rfl) (se_tuple_of rfl (by rfl) T.z_tuple (SE.V (se_slice rfl (SE.F (se_list_dict rfl rfl (by rfl) T.z_list (se_own (pv 0)))) so_none (so_some se_int)))))
    (sb_cons (ss_put (i := 0) rfl hr (pv 0) (se_tup (sa_cons (se_var (pv 5)) (sa_cons (se_var (pv 1)) (sa_cons (se_var (pv 2)) (sa_cons (se_var (pv 3)) (sa_cons (se_var (pv 4)) (sa_cons (se_var (pv 6)) (sa_cons (se_var (pv 6)) sa_nil)))))))) (se_var (pv 5)))
    (sb_one (ss_ret (se_var (pv 5)))))))
end K20

namespace K20
open PySem PySem.Spec PyProof.Rows L2 Br Dl
def b_law_hall : M2 := (sSeq2 (sSetO 2 mDNew)
    (sSeq2 (sSetO 3 mDNew)
    (sSeq2 (sPut 3 (mCall F_law_add 1 (rOwn 2 (rCons (mC (.str "begin")) (rCons (mOp oIx (mVar 1) (mC (.int 0))) (rCons (mC (.str "")) (rCons (mTup (aCons (mOp oAdd (mC (.int 1)) (mCall F_law_take 1 (rOwn 0 (rCons (mC (.int 2)) rNil)))) (aCons (mC .none) aNil))) rNil)))))) (mTup (aCons (mC (.str "begin")) (aCons (mC (.str "")) aNil))))
    (sSeq2 (sFor (mRng1 (aCons (mCall F_law_take 1 (rOwn 0 (rCons (mC (.int 13)) rNil))) aNil)) (mgName 4)
      (sDrop (mCall F_law_add 1 (rOwn 2 (rCons (mC (.str "say")) (rCons (mOp oIx (mVar 1) (mC (.int 0))) (rCons (mC (.str "")) (rCons (mC (.str "so")) rNil))))))))
    (sSeq2 (sFor (mRng1 (aCons (mCall F_law_take 1 (rOwn 0 (rCons (mC (.int 3)) rNil))) aNil)) (mgName 4)
      (sPut 3 (mCall F_law_add 1 (rOwn 2 (rCons (mC (.str "ranks")) (rCons (mOp oIx (mVar 1) (mCall F_law_take 1 (rOwn 0 (rCons (mUn oLen (mVar 1)) rNil)))) (rCons (mC (.str "")) (rCons (mCall F_law_rank_rows 1 (rOwn 0 (rCons (mVar 1) rNil))) rNil)))))) (mTup (aCons (mC (.str "ranks")) (aCons (mC (.str "")) aNil)))))
    (sSeq2 (sIf (mTest (mOp oEq (mCall F_law_take 1 (rOwn 0 (rCons (mC (.int 2)) rNil))) (mC (.int 0))))
      (sPut 3 (mCall F_law_add 1 (rOwn 2 (rCons (mC (.str "door")) (rCons (mOp oIx (mVar 1) (mC (.int 0))) (rCons (mC (.str "")) (rCons (mOp oIx (mLst (aCons (mC (.str "open")) (aCons (mC (.str "asked")) aNil))) (mCall F_law_take 1 (rOwn 0 (rCons (mC (.int 2)) rNil)))) rNil)))))) (mTup (aCons (mC (.str "door")) (aCons (mC (.str "")) aNil))))
      sNext)
    (sSeq2 (sFor (mItems dLst (mVar 1)) (mgName 5)
      (sIf (mTest (mOp oGt (mCall F_law_take 1 (rOwn 0 (rCons (mC (.int 5)) rNil))) (mC (.int 0))))
      (sSeq (sSet 6 (mOp oIx (mLst (aCons (mC (.str "in")) (aCons (mC (.str "in")) (aCons (mC (.str "in")) (aCons (mC (.str "out")) (aCons (mC (.str "called")) (aCons (mC (.str "barred")) aNil))))))) (mCall F_law_take 1 (rOwn 0 (rCons (mC (.int 6)) rNil)))))
    (sPut 3 (mCall F_law_add 1 (rOwn 2 (rCons (mC (.str "seat")) (rCons (mOp oIx (mVar 1) (mCall F_law_take 1 (rOwn 0 (rCons (mUn oLen (mVar 1)) rNil)))) (rCons (mVar 5) (rCons (mVar 6) rNil)))))) (mTup (aCons (mC (.str "seat")) (aCons (mVar 5) aNil)))))
      sNext))
    (sSeq2 (sDrop (mCall F_law_add 1 (rOwn 2 (rCons (mC (.str "say")) (rCons (mOp oIx (mVar 1) (mC (.int 0))) (rCons (mC (.str "")) (rCons (mC (.str "so")) rNil)))))))
    (sSeq2 (sIf (mTest (mOp oEq (mCall F_law_take 1 (rOwn 0 (rCons (mC (.int 9)) rNil))) (mC (.int 0))))
      (sDPop 3 (mTup (aCons (mC (.str "begin")) (aCons (mC (.str "")) aNil))))
      sNext)
    (sRet2 1 2 3))))))))))
def F_law_hall : F2 := F2of 2 5 1 b_law_hall
theorem d_law_hall {P : Program} {w : World} {K : PySem.W.Frag} {mg : Str → Option Value} {base : Heap} (T : Txt K mg) : Fn2 P w K mg base 3 T.f_law_hall T.d_law_hall ["_law_pool_here", "_law_folk_here"] 1 F_law_hall := by
  have O_law_add := d_law_add (P := P) (w := w) (base := base) T
  have O_law_rank_rows := d_law_rank_rows (P := P) (w := w) (base := base) T
  have O_law_take := d_law_take (P := P) (w := w) (base := base) T
  refine fn_of2 T.F_law_hall sc_law_hall (by decide) rfl rfl fun cdv Ar out s0 H E hG hr => ?_
  exact (sb2_cons (ss_setO (i := 2) (by decide) sc_law_hall.nd rfl (.inl rfl) se_dnewK)
    (sb2_cons (ss_setO (i := 3) (by decide) sc_law_hall.nd rfl (.inl rfl) se_dnewK)
    (sb2_cons (ss_put (i := 3) rfl hr (pv 3) (se_callD O_law_add rfl hG hr (by decide) (by rfl) T.m_law_add T.F_law_add.kp T.b_law_add (sr_own (pv 2) (sr_cons se_str (sr_cons (se_item rfl (Room.u1 hr) (se_var (pv 1)) (SE.V se_int) (fun _ _ => rfl)) (sr_cons se_str (sr_cons (se_tup (sa_cons (se_add rfl se_int (SE.V (se_callD O_law_take rfl hG hr (by decide) (by rfl) T.m_law_take T.F_law_take.kp T.b_law_take (sr_own (pv 0) (sr_cons se_int sr_nil))))) (sa_cons se_non sa_nil))) sr_nil)))))) (se_tup (sa_cons se_str (sa_cons se_str sa_nil))))
    (sb2_cons (ss_for (g := (gName 4)) (mg := (mgName 4)) PassesOwn.never rfl (si_range1 (by rfl) T.z_range (sa_cons (se_callD O_law_take rfl hG hr (by decide) (by rfl) T.m_law_take T.F_law_take.kp T.b_law_take (sr_own (pv 0) (sr_cons se_int sr_nil))) sa_nil)) (pg_name (i := 4) sc_law_hall.nd rfl (.inl rfl)) (sg_name (by decide))
      (sb_one (ss_expr (se_callD O_law_add rfl hG hr (by decide) (by rfl) T.m_law_add T.F_law_add.kp T.b_law_add (sr_own (pv 2) (sr_cons se_str (sr_cons (se_item rfl (Room.u1 hr) (se_var (pv 1)) (SE.V se_int) (fun _ _ => rfl)) (sr_cons se_str (sr_cons se_str sr_nil)))))))))
    (sb2_cons (ss_for (g := (gName 4)) (mg := (mgName 4)) PassesOwn.never rfl (si_range1 (by rfl) T.z_range (sa_cons (se_callD O_law_take rfl hG hr (by decide) (by rfl) T.m_law_take T.F_law_take.kp T.b_law_take (sr_own (pv 0) (sr_cons se_int sr_nil))) sa_nil)) (pg_name (i := 4) sc_law_hall.nd rfl (.inl rfl)) (sg_name (by decide))
      (sb_one (ss_put (i := 3) rfl hr (pv 3) (se_callD O_law_add rfl hG hr (by decide) (by rfl) T.m_law_add T.F_law_add.kp T.b_law_add (sr_own (pv 2) (sr_cons se_str (sr_cons (se_item rfl (Room.u1 hr) (se_var (pv 1)) (SE.V (se_callD O_law_take rfl hG hr (by decide) (by rfl) T.m_law_take T.F_law_take.kp T.b_law_take (sr_own (pv 0) (sr_cons (se_len rfl (by rfl) T.z_len (SE.V (se_var (pv 1)))) sr_nil)))) (fun _ _ => rfl)) (sr_cons se_str (sr_cons (se_callD O_law_rank_rows rfl hG hr (by decide) (by rfl) T.m_law_rank_rows T.F_law_rank_rows.kp T.b_law_rank_rows (sr_own (pv 0) (sr_cons (se_var (pv 1)) sr_nil))) sr_nil)))))) (se_tup (sa_cons se_str (sa_cons se_str sa_nil))))))
    (sb2_cons (ss_if (st_c (c_eq rfl hr.units) (se_callD O_law_take rfl hG hr (by decide) (by rfl) T.m_law_take T.F_law_take.kp T.b_law_take (sr_own (pv 0) (sr_cons se_int sr_nil))) (SE.V se_int) (nomark _))
      (sb_one (ss_put (i := 3) rfl hr (pv 3) (se_callD O_law_add rfl hG hr (by decide) (by rfl) T.m_law_add T.F_law_add.kp T.b_law_add (sr_own (pv 2) (sr_cons se_str (sr_cons (se_item rfl (Room.u1 hr) (se_var (pv 1)) (SE.V se_int) (fun _ _ => rfl)) (sr_cons se_str (sr_cons (se_item rfl (Room.u1 hr) (SE.F (se_lst (sa_cons se_str (sa_cons se_str sa_nil)))) (SE.V (se_callD O_law_take rfl hG hr (by decide) (by rfl) T.m_law_take T.F_law_take.kp T.b_law_take (sr_own (pv 0) (sr_cons se_int sr_nil)))) (fun _ _ => rfl)) sr_nil)))))) (se_tup (sa_cons se_str (sa_cons se_str sa_nil))))) sb_nil)
    (sb2_cons (ss_for (g := (gName 5)) (mg := (mgName 5)) PassesOwn.never rfl (si_list (se_var (pv 1)) rfl) (pg_name (i := 5) sc_law_hall.nd rfl (.inl rfl)) (sg_name (by decide))
      (sb_one (ss_if (st_c (c_gt rfl) (se_callD O_law_take rfl hG hr (by decide) (by rfl) T.m_law_take T.F_law_take.kp T.b_law_take (sr_own (pv 0) (sr_cons se_int sr_nil))) (SE.V se_int) (nomark _))
      (sb_cons (ss_set (i := 6) (by decide) sc_law_hall.nd rfl (.inl rfl) (se_item rfl (Room.u1 hr) (SE.F (se_lst (sa_cons se_str (sa_cons se_str (sa_cons se_str (sa_cons se_str (sa_cons se_str (sa_cons se_str sa_nil)))))))) (SE.V (se_callD O_law_take rfl hG hr (by decide) (by rfl) T.m_law_take T.F_law_take.kp T.b_law_take (sr_own (pv 0) (sr_cons se_int sr_nil)))) (fun _ _ => rfl)))
    (sb_one (ss_put (i := 3) rfl hr (pv 3) (se_callD O_law_add rfl hG hr (by decide) (by rfl) T.m_law_add T.F_law_add.kp T.b_law_add (sr_own (pv 2) (sr_cons se_str (sr_cons (se_item rfl (Room.u1 hr) (se_var (pv 1)) (SE.V (se_callD O_law_take rfl hG hr (by decide) (by rfl) T.m_law_take T.F_law_take.kp T.b_law_take (sr_own (pv 0) (sr_cons (se_len rfl (by rfl) T.z_len (SE.V (se_var (pv 1)))) sr_nil)))) (fun _ _ => rfl)) (sr_cons (se_var (pv 5)) (sr_cons (se_var (pv 6)) sr_nil)))))) (se_tup (sa_cons se_str (sa_cons (se_var (pv 5)) sa_nil)))))) sb_nil)))
    (sb2_cons (ss_expr (se_callD O_law_add rfl hG hr (by decide) (by rfl) T.m_law_add T.F_law_add.kp T.b_law_add (sr_own (pv 2) (sr_cons se_str (sr_cons (se_item rfl (Room.u1 hr) (se_var (pv 1)) (SE.V se_int) (fun _ _ => rfl)) (sr_cons se_str (sr_cons se_str sr_nil)))))))
    (sb2_cons (ss_if (st_c (c_eq rfl hr.units) (se_callD O_law_take rfl hG hr (by decide) (by rfl) T.m_law_take T.F_law_take.kp T.b_law_take (sr_own (pv 0) (sr_cons se_int sr_nil))) (SE.V se_int) (nomark _))
      (sb_one (ss_dpop (i := 3) rfl hr (pv 3) (se_tup (sa_cons se_str (sa_cons se_str sa_nil))))) sb_nil)
    (sb2_ret (pv 2) (pv 3)))))))))))
end K20

namespace K20
open PySem PySem.Spec PyProof.Rows L2 Br Dl
def b_law_content : MS := (sSeq (sIf (mTest (mOp oEq (mVar 1) (mC (.str "begin"))))
      (sRet (mTup (aCons (mOp oAdd (mC (.int 1)) (mCall F_law_take 1 (rOwn 0 (rCons (mC (.int 2)) rNil)))) (aCons (mOp oIx (mLst (aCons (mC .none) (aCons (mTupZ (aCons (mC (.str "old")) (aCons (mCall F_law_take 1 (rOwn 0 (rCons (mC (.int 9)) rNil))) aNil))) aNil))) (mCall F_law_take 1 (rOwn 0 (rCons (mC (.int 2)) rNil)))) aNil))))
      sNext)
    (sSeq (sIf (mTest (mOp oEq (mVar 1) (mC (.str "seat"))))
      (sRet (mOp oIx (mLst (aCons (mC (.str "in")) (aCons (mC (.str "out")) (aCons (mC (.str "called")) (aCons (mC (.str "barred")) aNil))))) (mCall F_law_take 1 (rOwn 0 (rCons (mC (.int 4)) rNil)))))
      sNext)
    (sSeq (sIf (mTest (mOp oEq (mVar 1) (mC (.str "ranks"))))
      (sRet (mCall F_law_rank_rows 1 (rOwn 0 (rCons (mVar 2) rNil))))
      sNext)
    (sSeq (sIf (mTest (mOp oEq (mVar 1) (mC (.str "door"))))
      (sRet (mOp oIx (mLst (aCons (mC (.str "open")) (aCons (mC (.str "asked")) aNil))) (mCall F_law_take 1 (rOwn 0 (rCons (mC (.int 2)) rNil)))))
      sNext)
    (sSeq (sIf (mTest (mOp oEq (mVar 1) (mC (.str "say"))))
      (sSeq (sSet 4 (mC (.str "abz 09!~-:;,=@")))
    (sRet (mJoin (mC (.str "")) (mLc (mRng1 (aCons (mOp oMul (mCall F_law_take 1 (rOwn 0 (rCons (mC (.int 3)) rNil))) (mCall F_law_take 1 (rOwn 0 (rCons (mC (.int 8)) rNil)))) aNil)) (mgName 5) mYes (mOp oIx (mVar 4) (mCall F_law_take 1 (rOwn 0 (rCons (mC (.int 14)) rNil)))) [5]))))
      sNext)
    (sSeq (sIf (mTest (mOp oEq (mVar 1) (mC (.str "strike"))))
      (sRet (mTup (aCons (mOp oIx (mLst (aCons (mC (.str "a")) (aCons (mC (.str "zz")) aNil))) (mCall F_law_take 1 (rOwn 0 (rCons (mC (.int 2)) rNil)))) (aCons (mCall F_law_take 1 (rOwn 0 (rCons (mC (.int 200)) rNil))) aNil))))
      sNext)
    (sRet (mOp oAdd (mC (.int 1)) (mCall F_law_take 1 (rOwn 0 (rCons (mC (.int 2)) rNil)))))))))))
def F_law_content : Fs := Fof 4 2 1 b_law_content
theorem d_law_content {P : Program} {w : World} {K : PySem.W.Frag} {mg : Str → Option Value} {base : Heap} (T : Txt K mg) : FnD P w K mg base 3 T.f_law_content T.d_law_content ["_law_pool_here", "_law_sort", "_law_folk_here", "_law_title"] 1 F_law_content := by
  have O_law_rank_rows := d_law_rank_rows (P := P) (w := w) (base := base) T
  have O_law_take := d_law_take (P := P) (w := w) (base := base) T
  refine fn_of T.F_law_content sc_law_content (by decide) rfl rfl fun cdv Ar out s0 H E hG hr => ?_
  exact (sb_cons (ss_if (st_c (c_eq rfl hr.units) (se_var (pv 1)) (SE.V se_str) (nomark _))
      (sb_one (ss_ret (se_tup (sa_cons (se_add rfl se_int (SE.V (se_callD O_law_take rfl hG hr (by decide) (by rfl) T.m_law_take T.F_law_take.kp T.b_law_take (sr_own (pv 0) (sr_cons se_int sr_nil))))) (sa_cons (se_item rfl (Room.u1 hr) (SE.F (se_lst (sa_cons se_non (sa_cons (se_tupZ (sa_cons se_str (sa_cons (se_callD O_law_take rfl hG hr (by decide) (by rfl) T.m_law_take T.F_law_take.kp T.b_law_take (sr_own (pv 0) (sr_cons se_int sr_nil))) sa_nil))) sa_nil)))) (SE.V (se_callD O_law_take rfl hG hr (by decide) (by rfl) T.m_law_take T.F_law_take.kp T.b_law_take (sr_own (pv 0) (sr_cons se_int sr_nil)))) (fun _ _ => rfl)) sa_nil))))) sb_nil)
    (sb_cons (ss_if (st_c (c_eq rfl hr.units) (se_var (pv 1)) (SE.V se_str) (nomark _))
      (sb_one (ss_ret (se_item rfl (Room.u1 hr) (SE.F (se_lst (sa_cons se_str (sa_cons se_str (sa_cons se_str (sa_cons se_str sa_nil)))))) (SE.V (se_callD O_law_take rfl hG hr (by decide) (by rfl) T.m_law_take T.F_law_take.kp T.b_law_take (sr_own (pv 0) (sr_cons se_int sr_nil)))) (fun _ _ => rfl)))) sb_nil)
    (sb_cons (ss_if (st_c (c_eq rfl hr.units) (se_var (pv 1)) (SE.V se_str) (nomark _))
      (sb_one (ss_ret (se_callD O_law_rank_rows rfl hG hr (by decide) (by rfl) T.m_law_rank_rows T.F_law_rank_rows.kp T.b_law_rank_rows (sr_own (pv 0) (sr_cons (se_var (pv 2)) sr_nil))))) sb_nil)
    (sb_cons (ss_if (st_c (c_eq rfl hr.units) (se_var (pv 1)) (SE.V se_str) (nomark _))
      (sb_one (ss_ret (se_item rfl (Room.u1 hr) (SE.F (se_lst (sa_cons se_str (sa_cons se_str sa_nil)))) (SE.V (se_callD O_law_take rfl hG hr (by decide) (by rfl) T.m_law_take T.F_law_take.kp T.b_law_take (sr_own (pv 0) (sr_cons se_int sr_nil)))) (fun _ _ => rfl)))) sb_nil)
    (sb_cons (ss_if (st_c (c_eq rfl hr.units) (se_var (pv 1)) (SE.V se_str) (nomark _))
      (sb_cons (ss_set (i := 4) (by decide) sc_law_content.nd rfl (.inr rfl) se_str)
    (sb_one (ss_ret (se_join rfl se_str (SE.FV (se_lc (own := [("_law_turn", 5)]) (g := (gName 5)) (mg := (mgName 5)) (mt := mYes) (me := (mOp oIx (mVar 4) (mCall F_law_take 1 (rOwn 0 (rCons (mC (.int 14)) rNil))))) rfl sc_law_content.nd (si_range1 (by rfl) T.z_range (sa_cons (se_mul rfl (se_callD O_law_take rfl hG hr (by decide) (by rfl) T.m_law_take T.F_law_take.kp T.b_law_take (sr_own (pv 0) (sr_cons se_int sr_nil))) (SE.V (se_callD O_law_take rfl hG hr (by decide) (by rfl) T.m_law_take T.F_law_take.kp T.b_law_take (sr_own (pv 0) (sr_cons se_int sr_nil))))) sa_nil)) (blkOk_by (own := [("_law_turn", 5)]) (N := ["_law_pool_here", "_law_sort", "_law_folk_here", "_law_title", "_law_signs", "_law_turn"]) (sc := defScope s_law_content) (by decide +kernel)) (fun _ _ _ _ _ => (pg_name (i := 5) sc_law_content.nd rfl (Or.inl rfl))) (sg_name (by decide)) (by decide) (fun _ _ _ _ _ => sts_nil) (fun _ _ _ _ _ => (se_item rfl (Room.u1 hr) (se_var (pv 4)) (SE.V (se_callD O_law_take rfl hG hr (by decide) (by rfl) T.m_law_take T.F_law_take.kp T.b_law_take (sr_own (pv 0) (sr_cons se_int sr_nil)))) (fun _ _ => rfl))))))))) sb_nil)
    (sb_cons (ss_if (st_c (c_eq rfl hr.units) (se_var (pv 1)) (SE.V se_str) (nomark _))
      (sb_one (ss_ret (se_tup (sa_cons (se_item rfl (Room.u1 hr) (SE.F (se_lst (sa_cons se_str (sa_cons se_str sa_nil)))) (SE.V (se_callD O_law_take rfl hG hr (by decide) (by rfl) T.m_law_take T.F_law_take.kp T.b_law_take (sr_own (pv 0) (sr_cons se_int sr_nil)))) (fun _ _ => rfl)) (sa_cons (se_callD O_law_take rfl hG hr (by decide) (by rfl) T.m_law_take T.F_law_take.kp T.b_law_take (sr_own (pv 0) (sr_cons se_int sr_nil))) sa_nil))))) sb_nil)
    (sb_one (ss_ret (se_add rfl se_int (SE.V (se_callD O_law_take rfl hG hr (by decide) (by rfl) T.m_law_take T.F_law_take.kp T.b_law_take (sr_own (pv 0) (sr_cons se_int sr_nil)))))))))))))
def b_law_item : MS := (sSeq (sSet 5 (mUn oTupOf (mSlice (mUn oKeys (mVar 0)) pNo (pSome (mUn oInt (mOp oNe (mVar 1) (mC (.str "begin"))))))))
    (sRet (mTup (aCons (mTupZ (aCons (mOp oIx (mSplit (mVar 2) (mC (.str "@"))) (mC (.int 1))) (aCons (mC (.int 900)) aNil))) (aCons (mVar 1) (aCons (mVar 2) (aCons (mVar 3) (aCons (mVar 4) (aCons (mVar 5) (aCons (mVar 5) aNil))))))))))
def F_law_item : Fs := Fof 5 1 0 b_law_item
theorem d_law_item {P : Program} {w : World} {K : PySem.W.Frag} {mg : Str → Option Value} {base : Heap} (T : Txt K mg) : FnD P w K mg base 1 T.f_law_item T.d_law_item ["_law_web", "_law_sort", "_law_doer", "_law_other", "_law_content_here"] 0 F_law_item := by
  refine fn_of T.F_law_item sc_law_item (by decide) rfl rfl fun cdv Ar out s0 H E hG hr => ?_
  exact (sb_cons (ss_set (i := 5) (by decide) sc_law_item.nd rfl (.inl rfl) (se_tuple_of rfl (by rfl) T.z_tuple (SE.V (se_slice rfl (SE.F (se_list_dict rfl rfl (by rfl) T.z_list (SE.V (se_var (pv 0))))) so_none (so_some (se_int_of (by rfl) T.z_int (SE.V (se_c (c_ne rfl hr.units) (se_var (pv 1)) (SE.V se_str) (nomark _)))))))))
    (sb_one (ss_ret (se_tup (sa_cons (se_tupZ (sa_cons (se_item rfl (Room.u1 hr) (SE.F (se_split rfl (se_var (pv 2)) se_str)) (SE.V se_int) (fun _ _ => rfl)) (sa_cons se_int sa_nil))) (sa_cons (se_var (pv 1)) (sa_cons (se_var (pv 2)) (sa_cons (se_var (pv 3)) (sa_cons (se_var (pv 4)) (sa_cons (se_var (pv 5)) (sa_cons (se_var (pv 5)) sa_nil)))))))))))
end K20

namespace K20
open PySem PySem.Spec PyProof.Rows L2 Br Dl
def b_law : MS := (sSeq (sFor (mRng1 (aCons (mOn oMax (aCons (mC (.int 1)) (aCons (mOn oMin (aCons (mUn oLen (mVar 0)) (aCons (mC (.int 10)) aNil))) aNil))) aNil)) (mgName 1)
      (sSeq (sSetO 2 (mCallF F_law_pool (aCons (mVar 0) (aCons (mVar 1) aNil))))
    (sSeq (sSet 3 (mCall F_law_folk 1 (rOwn 2 (rCons (mC (.int 4)) rNil))))
    (sSeq (mFro 5 (mFro 4 (sTwo F_law_hall 1 (rOwn 2 (rCons (mVar 3) rNil)) 4 5)))
    (sFor (mItems dLst (mLst (aCons (mC (.str "begin")) (aCons (mC (.str "seat")) (aCons (mC (.str "seat")) (aCons (mC (.str "ranks")) (aCons (mC (.str "door")) (aCons (mC (.str "say")) (aCons (mC (.str "strike")) (aCons (mC (.str "move")) aNil)))))))))) (mgName 6)
      (sSeq (sSet 7 (mOp oIx (mVar 3) (mCall F_law_take 1 (rOwn 2 (rCons (mC (.int 4)) rNil)))))
    (sSeq (sSet 8 (mOp oIx (mLst (aCons (mC (.str "")) (aCons (mOp oIx (mVar 3) (mCall F_law_take 1 (rOwn 2 (rCons (mC (.int 4)) rNil)))) aNil))) (mUn oInt (mOp oEq (mVar 6) (mC (.str "seat"))))))
    (sSeq (sSet 9 (mCall F_law_content 1 (rOwn 2 (rCons (mVar 6) (rCons (mVar 3) (rCons (mC .none) rNil))))))
    (sSeq (sSet 10 (mCall F_law_item 0 (rCons (mVar 4) (rCons (mVar 6) (rCons (mVar 7) (rCons (mVar 8) (rCons (mVar 9) rNil)))))))
    (sSeq (sSetO 11 (mCallKF F_keys_for [3, 2, 1, 0] (aCons (mVar 9) (aCons (mVar 8) (aCons (mVar 7) (aCons (mVar 6) aNil))))))
    (sSeq (sIf (mTest (mOpO oNe 11 (mCallF F_keys_for (aCons (mVar 6) (aCons (mVar 7) (aCons (mVar 8) (aCons (mVar 9) aNil)))))))
      (sRet (mC (.bool false)))
      sNext)
    (sSeq (sAppend 11 (mC .none))
    (sSeq (sIf (mTest (mOp (oIn false) (mC .none) (mCallF F_keys_for (aCons (mVar 6) (aCons (mVar 7) (aCons (mVar 8) (aCons (mVar 9) aNil)))))))
      (sRet (mC (.bool false)))
      sNext)
    (sSeq (sSet 12 (mCall F_leave_for 0 (rCons (mVar 5) (rCons (mVar 6) (rCons (mVar 7) (rCons (mVar 8) (rCons (mVar 9) rNil)))))))
    (sSeq (sIf (mTest (mOp oNe (mCallK F_leave_for [4, 0, 1, 2, 3] (aCons (mVar 6) (aCons (mVar 7) (aCons (mVar 8) (aCons (mVar 9) (aCons (mVar 5) aNil)))))) (mVar 12)))
      (sRet (mC (.bool false)))
      sNext)
    (sIf (mTest (mOp oNe (mCallK F_bar [2, 1, 0] (aCons (mVar 10) (aCons (mVar 5) (aCons (mVar 4) aNil)))) (mCall F_bar 0 (rCons (mVar 4) (rCons (mVar 5) (rCons (mVar 10) rNil))))))
      (sRet (mC (.bool false)))
      sNext))))))))))))))))
    (sRet (mC (.bool true))))
def F_law : Fs := Fof 1 12 0 b_law
theorem d_law {P : Program} {w : World} {K : PySem.W.Frag} {mg : Str → Option Value} {base : Heap} (T : Txt K mg) : FnD P w K mg base 8 T.f_law T.d_law ["_law_script"] 0 F_law := by
  have O_law_content := d_law_content (P := P) (w := w) (base := base) T
  have O_law_folk := d_law_folk (P := P) (w := w) (base := base) T
  have O_law_hall := d_law_hall (P := P) (w := w) (base := base) T
  have O_law_item := d_law_item (P := P) (w := w) (base := base) T
  have O_law_pool := d_law_pool (P := P) (w := w) (base := base) T
  have O_law_take := d_law_take (P := P) (w := w) (base := base) T
  have O_bar := d_bar (P := P) (w := w) (base := base) T
  have O_keys_for := d_keys_for (P := P) (w := w) (base := base) T
  have O_leave_for := d_leave_for (P := P) (w := w) (base := base) T
  refine fn_of T.F_law sc_law (by decide) rfl rfl fun cdv Ar out s0 H E hG hr => ?_
  exact (sb_cons (ss_for (g := (gName 1)) (mg := (mgName 1)) PassesOwn.never rfl (si_range1 (by rfl) T.z_range (sa_cons (se_max rfl rfl (by rfl) T.z_max (sa_cons se_int (sa_cons (se_min rfl rfl (by rfl) T.z_min (sa_cons (se_len rfl (by rfl) T.z_len (SE.V (se_var (pv 0)))) (sa_cons se_int sa_nil))) sa_nil))) sa_nil)) (pg_name (i := 1) sc_law.nd rfl (.inl rfl)) (sg_name (by decide))
      (sb_cons (ss_setO (i := 2) (by decide) sc_law.nd rfl (.inl rfl) (se_callF O_law_pool rfl hG hr (by decide) (by rfl) T.m_law_pool T.F_law_pool.kp T.b_law_pool (sa_cons (se_var (pv 0)) (sa_cons (se_var (pv 1)) sa_nil))))
    (sb_cons (ss_set (i := 3) (by decide) sc_law.nd rfl (.inl rfl) (se_callD O_law_folk rfl hG hr (by decide) (by rfl) T.m_law_folk T.F_law_folk.kp T.b_law_folk (sr_own (pv 2) (sr_cons se_int sr_nil))))
    (sb_cons (SS.fro (i := 5) (SS.fro (i := 4) (ss_two (x := 4) (y := 5) O_law_hall rfl hG hr (by decide) (by rfl) T.m_law_hall T.F_law_hall.kp T.b_law_hall (sr_own (pv 2) (sr_cons (se_var (pv 3)) sr_nil)) (by decide) (by decide) (pg_tup rfl (pgs_cons (pg_name (i := 4) sc_law.nd rfl (.inl rfl)) (pgs_cons (pg_name (i := 5) sc_law.nd rfl (.inl rfl)) pgs_nil))) (by decide))))
    (sb_one (ss_for (g := (gName 6)) (mg := (mgName 6)) PassesOwn.never rfl (si_list (SE.F (se_lst (sa_cons se_str (sa_cons se_str (sa_cons se_str (sa_cons se_str (sa_cons se_str (sa_cons se_str (sa_cons se_str (sa_cons se_str sa_nil)))))))))) rfl) (pg_name (i := 6) sc_law.nd rfl (.inl rfl)) (sg_name (by decide))
      (sb_cons (ss_set (i := 7) (by decide) sc_law.nd rfl (.inl rfl) (se_item rfl (Room.u1 hr) (se_var (pv 3)) (SE.V (se_callD O_law_take rfl hG hr (by decide) (by rfl) T.m_law_take T.F_law_take.kp T.b_law_take (sr_own (pv 2) (sr_cons se_int sr_nil)))) (fun _ _ => rfl)))
    (sb_cons (ss_set (i := 8) (by decide) sc_law.nd rfl (.inl rfl) (se_item rfl (Room.u1 hr) (SE.F (se_lst (sa_cons se_str (sa_cons (se_item rfl (Room.u1 hr) (se_var (pv 3)) (SE.V (se_callD O_law_take rfl hG hr (by decide) (by rfl) T.m_law_take T.F_law_take.kp T.b_law_take (sr_own (pv 2) (sr_cons se_int sr_nil)))) (fun _ _ => rfl)) sa_nil)))) (SE.V (se_int_of (by rfl) T.z_int (SE.V (se_c (c_eq rfl hr.units) (se_var (pv 6)) (SE.V se_str) (nomark _))))) (fun _ _ => rfl)))
    (sb_cons (ss_set (i := 9) (by decide) sc_law.nd rfl (.inl rfl) (se_callD O_law_content rfl hG hr (by decide) (by rfl) T.m_law_content T.F_law_content.kp T.b_law_content (sr_own (pv 2) (sr_cons (se_var (pv 6)) (sr_cons (se_var (pv 3)) (sr_cons se_non sr_nil))))))
    (sb_cons (ss_set (i := 10) (by decide) sc_law.nd rfl (.inl rfl) (se_callD O_law_item rfl hG hr (by decide) (by rfl) T.m_law_item T.F_law_item.kp T.b_law_item (sr_cons (se_var (pv 4)) (sr_cons (se_var (pv 6)) (sr_cons (se_var (pv 7)) (sr_cons (se_var (pv 8)) (sr_cons (se_var (pv 9)) sr_nil)))))))
    (sb_cons (ss_setO (i := 11) (by decide) sc_law.nd rfl (.inl rfl) (se_callKF (ks := ["body", "about", "who", "kind"]) (is := [3, 2, 1, 0]) O_keys_for rfl hG hr (by decide) (by rfl) T.m_keys_for T.F_keys_for.kp T.kx_0 rfl (sk_cons (se_var (pv 9)) (sk_cons (se_var (pv 8)) (sk_cons (se_var (pv 7)) (sk_cons (se_var (pv 6)) sk_nil))))))
    (sb_cons (ss_if (st_cO (i := 11) (c_ne rfl hr.units) (pv 11) (SE.FV (se_callF O_keys_for rfl hG hr (by decide) (by rfl) T.m_keys_for T.F_keys_for.kp T.b_keys_for (sa_cons (se_var (pv 6)) (sa_cons (se_var (pv 7)) (sa_cons (se_var (pv 8)) (sa_cons (se_var (pv 9)) sa_nil)))))) (nomark _))
      (sb_one (ss_ret se_bl)) sb_nil)
    (sb_cons (ss_append (i := 11) rfl (pv 11) se_non)
    (sb_cons (ss_if (st_c (c_in rfl (Room.u65 hr)) se_non (SE.FV (se_callF O_keys_for rfl hG hr (by decide) (by rfl) T.m_keys_for T.F_keys_for.kp T.b_keys_for (sa_cons (se_var (pv 6)) (sa_cons (se_var (pv 7)) (sa_cons (se_var (pv 8)) (sa_cons (se_var (pv 9)) sa_nil)))))) (by rfl))
      (sb_one (ss_ret se_bl)) sb_nil)
    (sb_cons (ss_set (i := 12) (by decide) sc_law.nd rfl (.inl rfl) (se_callD O_leave_for rfl hG hr (by decide) (by rfl) T.m_leave_for T.F_leave_for.kp T.b_leave_for (sr_cons (se_var (pv 5)) (sr_cons (se_var (pv 6)) (sr_cons (se_var (pv 7)) (sr_cons (se_var (pv 8)) (sr_cons (se_var (pv 9)) sr_nil)))))))
    (sb_cons (ss_if (st_c (c_ne rfl hr.units) (se_callK (ks := ["kind", "who", "about", "body", "state"]) (is := [4, 0, 1, 2, 3]) O_leave_for rfl hG hr (by decide) (by rfl) T.m_leave_for T.F_leave_for.kp T.kx_1 rfl (sk_cons (se_var (pv 6)) (sk_cons (se_var (pv 7)) (sk_cons (se_var (pv 8)) (sk_cons (se_var (pv 9)) (sk_cons (se_var (pv 5)) sk_nil)))))) (SE.V (se_var (pv 12))) (nomark _))
      (sb_one (ss_ret se_bl)) sb_nil)
    (sb_one (ss_if (st_c (c_ne rfl hr.units) (se_callK (ks := ["deed", "state", "hall"]) (is := [2, 1, 0]) O_bar rfl hG hr (by decide) (by rfl) T.m_bar T.F_bar.kp T.kx_2 rfl (sk_cons (se_var (pv 10)) (sk_cons (se_var (pv 5)) (sk_cons (se_var (pv 4)) sk_nil)))) (SE.V (se_callD O_bar rfl hG hr (by decide) (by rfl) T.m_bar T.F_bar.kp T.b_bar (sr_cons (se_var (pv 4)) (sr_cons (se_var (pv 5)) (sr_cons (se_var (pv 10)) sr_nil))))) (nomark _))
      (sb_one (ss_ret se_bl)) sb_nil))))))))))))))))))
    (sb_one (ss_ret se_bl)))
end K20

namespace K20
open PySem PySem.Spec PyProof.Rows L2 Br Dl
def lkS (st : List (D × D)) (s ab : Str) : Option D := look kOf (.inr [.inr s, .inr ab]) st
theorem lk_eq {st : List (D × D)} {c : Tk} {s ab : Str} : dLook st (.tuple c [.str s, .str ab]) = lkS st s ab := rfl
theorem kof_eq {c : Tk} {s ab : Str} : kOf (.tuple c [.str s, .str ab]) = some (.inr [.inr s, .inr ab]) := rfl
theorem kof_nm {c : Tk} {s : Str} {i : Int} : kOf (.tuple c [.str s, .int i]) = some (.inr [.inr s, .inl i]) := rfl
def tups (ps : List (D × D)) : Prop := ∀ p ∈ ps, isTupD p.1 = true
theorem fits_t {ps : List (D × D)} (h : tups ps) {c : Tk} {xs : List D} : fits ps (.tuple c xs) = true := by
  unfold fits
  exact List.all_eq_true.mpr fun p hp => by rw [h p hp]; rfl
def numsD (us : List D) : Prop := ∃ p, prs us = some p ∧ ∀ q ∈ p, ∃ i, q.2 = .int i ∧ 0 ≤ i
/-- the text of a row -/
def rowK : D → D
  | .tuple _ (k :: _) => k
  | _ => .none
/-- the eight words -/
def wds : List Str := ["bar", "call", "door", "move", "out", "ranks", "say", "strike"]
/-- rows of words and numbers, the words unlike -/
def numsU (ws : List D) : Prop := numsD ws ∧ (∀ u ∈ ws, ∃ c z i, u = .tuple c [.str z, .int i]) ∧ (ws.map rowK).Nodup ∧ ∀ u ∈ ws, ∀ z, rowK u = .str z → z ∈ wds
/-- what a deed's content is, by its key -/
def Body (s : Str) (to : D) : Prop :=
  (s = "begin" → ∃ c r, to = .tuple c [.int r, .none]) ∧
  (s = "ranks" → ∃ c us ws, to = .tuple c [.tuple .frz us, .tuple .frz ws] ∧ numsD us ∧ numsU ws) ∧
  (s = "seat" ∨ s = "door" → ∃ z, to = .str z)
structure GH (ps st : List (D × D)) : Prop where
  th : tups ps
  ts : tups st
  at_ : ∀ s ab nm, lkS st s ab = some nm → ∃ c h i e t so wh ot to fi fi', nm = .tuple c [.str h, .int i] ∧ dLook ps nm = some (.tuple e [t, so, .str wh, ot, to, fi, fi']) ∧ Body s to
/-- the deed for a key, or None -/
def dOf (ps st : List (D × D)) (s ab : Str) : D := match lkS st s ab with
  | none => .none
  | some nm => (dLook ps nm).getD .none
def bOf : D → D → D
  | .tuple _ [_, _, _, _, to, _, _], _ => to
  | _, o => o
section
variable {ps st : List (D × D)} (g : GH ps st)
include g
theorem dOf_cases (s ab : Str) : (lkS st s ab = none ∧ dOf ps st s ab = .none) ∨ (∃ c h i e t so wh ot to fi fi', lkS st s ab = some (.tuple c [.str h, .int i]) ∧ dLook ps (.tuple c [.str h, .int i]) = some (.tuple e [t, so, .str wh, ot, to, fi, fi']) ∧ dOf ps st s ab = .tuple e [t, so, .str wh, ot, to, fi, fi'] ∧ Body s to) := by
  cases e : lkS st s ab with
  | none => exact .inl ⟨rfl, by unfold dOf; rw [e]⟩
  | some nm =>
    obtain ⟨c', hh, i, e', t, so, wh, ot, to, fi, fi', rfl, e2, hb⟩ := g.at_ s ab nm e
    exact .inr ⟨c', hh, i, e', t, so, wh, ot, to, fi, fi', rfl, e2, by unfold dOf; rw [e]; show (dLook ps _).getD .none = _; rw [e2]; rfl, hb⟩
theorem body_for_s_ {c : Tk} {s ab : Str} {o : D} {b : MS} (eb : b = (sRet (mIfE (mTest (mOp (oIn false) (mVar 2) (mVar 1))) (mOp oIx (mOp oIx (mVar 0) (mOp oIx (mVar 1) (mVar 2))) (mC (.int 4))) (mVar 3)))) {K : D → List Cell → Prop} (h : K (bOf (dOf ps st s ab) o) []) : Fof 4 0 0 b [.fro (.dict ps), .fro (.dict st), .fro (.tuple c [.str s, .str ab]), .fro o] K := by
  subst eb
  refine Fof.mk rfl ?_
  rcases dOf_cases g s ab with ⟨e, e1⟩ | ⟨c', hh, i, e', t, so, wh, ot, to, fi, fi', e, e2, e1, hb⟩
  · rw [e1] at h
    simp [sRet, mIfE, mTest, mOp, mVar, oIn, lk_eq, kof_eq, fits_t g.ts, e, mC]
    exact h
  · rw [e1] at h
    simp [sRet, mIfE, mTest, mOp, mVar, oIn, lk_eq, kof_eq, kof_nm, fits_t g.ts, fits_t g.th, e, mC, oIx, e2, atI, ixN]
    exact h
end
end K20

namespace K20
open PySem PySem.Spec PyProof.Rows L2 Br Dl
theorem look_map {k q : Key ⊕ List Key} {v : D} : ∀ {ps : List (D × D)}, look kOf q (ps.map fun p => if kOf p.1 = some k then (p.1, v) else p) = if q = k then (look kOf q ps).map (fun _ => v) else look kOf q ps
  | [] => by split <;> rfl
  | p :: ps => by
    have ih := look_map (k := k) (q := q) (v := v) (ps := ps)
    show (if kOf (if kOf p.1 = some k then (p.1, v) else p).1 = some q then some (if kOf p.1 = some k then (p.1, v) else p).2 else look kOf q (ps.map _)) = if q = k then (if kOf p.1 = some q then some p.2 else look kOf q ps).map (fun _ => v) else (if kOf p.1 = some q then some p.2 else look kOf q ps)
    rw [ih]
    by_cases h : kOf p.1 = some k
    · rw [if_pos h]
      by_cases e : q = k
      · subst e
        rw [if_pos rfl, if_pos rfl, if_pos h, if_pos h]; rfl
      · have : ¬ kOf p.1 = some q := fun z => e (by rw [h] at z; exact (Option.some.inj z).symm)
        rw [if_neg e, if_neg e, if_neg this, if_neg this]
    · rw [if_neg h]
      by_cases e : q = k
      · subst e
        rw [if_pos rfl, if_pos rfl, if_neg h, if_neg h]
      · rw [if_neg e, if_neg e]
theorem look_app {k : Key ⊕ List Key} : ∀ {ps r : List (D × D)}, look kOf k (ps ++ r) = (look kOf k ps).orElse fun _ => look kOf k r
  | [], r => rfl
  | p :: ps, r => by
    show (if kOf p.1 = some k then some p.2 else look kOf k (ps ++ r)) = (if kOf p.1 = some k then some p.2 else look kOf k ps).orElse _
    by_cases h : kOf p.1 = some k
    · rw [if_pos h, if_pos h]; rfl
    · rw [if_neg h, if_neg h]; exact look_app
theorem look_none {k : Key ⊕ List Key} : ∀ {ps : List (D × D)}, (∀ p ∈ ps, kOf p.1 ≠ some k) → look kOf k ps = none
  | [], _ => rfl
  | p :: ps, h => by
    show (if kOf p.1 = some k then some p.2 else look kOf k ps) = none
    rw [if_neg (h p List.mem_cons_self)]
    exact look_none fun q hq => h q (List.mem_cons_of_mem _ hq)
theorem look_any {k : Key ⊕ List Key} : ∀ {ps : List (D × D)}, (ps.any fun p => decide (kOf p.1 = some k)) = true → ∃ d, look kOf k ps = some d
  | p :: ps, h => by
    show ∃ d, (if kOf p.1 = some k then some p.2 else look kOf k ps) = some d
    by_cases e : kOf p.1 = some k
    · exact ⟨p.2, if_pos e⟩
    · rw [if_neg e]
      rw [List.any_cons, decide_eq_false e, Bool.false_or] at h
      exact look_any h
theorem look_put {ps : List (D × D)} {k q : Key ⊕ List Key} {key v : D} (hk : kOf key = some k) : look kOf q (putKs ps k key v) = if q = k then some v else look kOf q ps := by
  unfold putKs
  by_cases a : (ps.any fun p => decide (kOf p.1 = some k)) = true
  · rw [if_pos a, look_map]
    by_cases e : q = k
    · subst e
      obtain ⟨d, hd⟩ := look_any a
      rw [if_pos rfl, if_pos rfl, hd]; rfl
    · rw [if_neg e, if_neg e]
  · rw [if_neg a, look_app]
    have nn : look kOf k ps = none := look_none fun p hp z => a (List.any_eq_true.mpr ⟨p, hp, decide_eq_true z⟩)
    by_cases e : q = k
    · subst e
      rw [nn, if_pos rfl]
      show (if kOf key = some q then some v else none) = some v
      rw [if_pos hk]
    · rw [if_neg e]
      have : look kOf q [(key, v)] = none := by
        show (if kOf key = some q then some v else none) = none
        rw [if_neg fun z => e (by rw [hk] at z; exact (Option.some.inj z).symm)]
      rw [this]
      cases look kOf q ps <;> rfl
end K20

namespace K20
open PySem PySem.Spec PyProof.Rows L2 Br Dl
theorem beqS (a z : Str) : (a == z) = decide (z = a) := by
  by_cases h : z = a
  · subst h; simp
  · rw [decide_eq_false h]
    exact beq_eq_false_iff_ne.mpr fun e => h e.symm
/-! dicts of texts or numbers -/
def flats (ps : List (D × D)) : Prop := ∀ p ∈ ps, isTupD p.1 = false
def vals (ps : List (D × D)) : Prop := ∀ p ∈ ps, ∃ i, p.2 = .int i
theorem put_flats {ps : List (D × D)} {k : Key} {v : D} (h : flats ps) : flats (putKs ps (.inl k) (keyD k) v) := by
  unfold putKs
  split
  · intro p hp
    obtain ⟨q, hq, e⟩ := List.mem_map.mp hp
    subst e
    split
    · exact h q hq
    · exact h q hq
  · intro p hp
    rcases List.mem_append.mp hp with z | z
    · exact h p z
    · rw [List.mem_singleton] at z
      subst z
      cases k <;> rfl
theorem put_vals {ps : List (D × D)} {k : Key} {i : Int} (h : vals ps) : vals (putKs ps (.inl k) (keyD k) (.int i)) := by
  unfold putKs
  split
  · intro p hp
    obtain ⟨q, hq, e⟩ := List.mem_map.mp hp
    subst e
    split
    · exact ⟨i, rfl⟩
    · exact h q hq
  · intro p hp
    rcases List.mem_append.mp hp with z | z
    · exact h p z
    · rw [List.mem_singleton] at z
      subst z
      exact ⟨i, rfl⟩
theorem merge_ok : ∀ {more : List (Key × D)} {ps : List (D × D)}, flats ps → vals ps → (∀ q ∈ more, ∃ i, q.2 = .int i) → flats (mergeD ps more) ∧ vals (mergeD ps more)
  | [], _, h, k, _ => ⟨h, k⟩
  | (k, v) :: more, ps, h, hv, hm => by
    obtain ⟨i, e⟩ := hm (k, v) List.mem_cons_self
    simp at e
    subst e
    exact merge_ok (more := more) (ps := putKs ps (.inl k) (keyD k) (.int i)) (put_flats h) (put_vals hv) fun q hq => hm q (List.mem_cons_of_mem _ hq)
theorem fits_f {ps : List (D × D)} (h : flats ps) {z : Str} : fits ps (.str z) = true := List.all_eq_true.mpr fun p hp => by rw [h p hp]; rfl
theorem look_val {ps : List (D × D)} (h : vals ps) {k : Key ⊕ List Key} {d : D} (e : look kOf k ps = some d) : ∃ i, d = .int i := by
  induction ps with
  | nil => cases e
  | cons p ps ih =>
    unfold look at e
    split at e
    · cases e
      exact h p List.mem_cons_self
    · exact ih (fun q hq => h q (List.mem_cons_of_mem _ hq)) e
/-- a number out of pairs -/
def numOf (us : List D) (z : Str) (d : Int) : Int := match (dLook (mergeD [] ((prs us).getD [])) (.str z)).getD (.int d) with
  | .int i => i
  | _ => 0
theorem num_get {us : List D} (h : numsD us) (z : Str) (d : Int) : ∃ p, prs us = some p ∧ fits (mergeD [] p) (.str z) = true ∧ (dLook (mergeD [] p) (.str z)).getD (.int d) = .int (numOf us z d) := by
  obtain ⟨p, e, hp⟩ := h
  obtain ⟨hf, hv⟩ := merge_ok (ps := []) (fun _ z => nomatch z) (fun _ z => nomatch z) fun q hq => (hp q hq).imp fun _ h => h.1
  refine ⟨p, e, fits_f hf, ?_⟩
  unfold numOf
  rw [e]
  show _ = D.int (match (dLook (mergeD [] p) (.str z)).getD (.int d) with | .int i => i | _ => 0)
  cases q : dLook (mergeD [] p) (.str z) with
  | none => rfl
  | some x =>
    obtain ⟨i, rfl⟩ := look_val hv (show look kOf (.inl (.inr z)) (mergeD [] p) = some x from q)
    rfl
theorem put_nn {ps : List (D × D)} {k : Key} {i : Int} (h : ∀ p ∈ ps, ∃ i, p.2 = .int i ∧ 0 ≤ i) (i0 : 0 ≤ i) : ∀ p ∈ putKs ps (.inl k) (keyD k) (.int i), ∃ i, p.2 = .int i ∧ 0 ≤ i := by
  unfold putKs
  split
  · intro p hp
    obtain ⟨q, hq, e⟩ := List.mem_map.mp hp
    subst e
    split
    · exact ⟨i, rfl, i0⟩
    · exact h q hq
  · intro p hp
    rcases List.mem_append.mp hp with z | z
    · exact h p z
    · rw [List.mem_singleton] at z
      subst z
      exact ⟨i, rfl, i0⟩
theorem merge_nn : ∀ {more : List (Key × D)} {ps : List (D × D)}, (∀ p ∈ ps, ∃ i, p.2 = .int i ∧ 0 ≤ i) → (∀ q ∈ more, ∃ i, q.2 = .int i ∧ 0 ≤ i) → ∀ p ∈ mergeD ps more, ∃ i, p.2 = .int i ∧ 0 ≤ i
  | [], _, h, _ => h
  | (k, v) :: more, ps, h, hm => by
    obtain ⟨i, e, i0⟩ := hm (k, v) List.mem_cons_self
    simp at e
    subst e
    exact merge_nn (more := more) (put_nn h i0) fun q hq => hm q (List.mem_cons_of_mem _ hq)
theorem look_nn {ps : List (D × D)} (h : ∀ p ∈ ps, ∃ i, p.2 = .int i ∧ 0 ≤ i) {k : Key ⊕ List Key} {d : D} (e : look kOf k ps = some d) : ∃ i, d = .int i ∧ 0 ≤ i := by
  induction ps with
  | nil => cases e
  | cons p ps ih =>
    unfold look at e
    split at e
    · cases e
      exact h p List.mem_cons_self
    · exact ih (fun q hq => h q (List.mem_cons_of_mem _ hq)) e
theorem num_nn {us : List D} (h : numsD us) (z : Str) {d : Int} (d0 : 0 ≤ d) : 0 ≤ numOf us z d := by
  obtain ⟨p, e, hp⟩ := h
  unfold numOf
  rw [e]
  show 0 ≤ (match (look kOf (.inl (.inr z)) (mergeD [] p)).getD (.int d) with | .int i => i | _ => 0)
  cases q : look kOf (.inl (.inr z)) (mergeD [] p) with
  | none => exact d0
  | some x =>
    obtain ⟨i, rfl, i0⟩ := look_nn (merge_nn (ps := []) (fun _ z => nomatch z) hp) q
    exact i0
/-- ranks, by the state -/
def rkOf (rb bg : D) (z : Str) : Int := match rb with
  | .tuple _ [.tuple _ us, _] => numOf us z 0
  | _ => match bg with
    | .tuple _ [_, _, .str wh, _, _, _, _] => if wh = z then 100 else 0
    | _ => 0
def freeW (w : Str) : Int := if w = "call" ∨ w = "say" then 0 else 50
def wtOf (rb : D) (w : Str) : Int := match rb with
  | .tuple _ [_, .tuple _ ws] => numOf ws w (freeW w)
  | _ => freeW w
/-- all people with their ranks, by the state -/
def pplOf (rb bg : D) : List (D × D) := match rb with
  | .tuple _ [.tuple _ us, _] => mergeD [] ((prs us).getD [])
  | _ => match bg with
    | .tuple _ [_, _, .str wh, _, _, _, _] => [(.str wh, .int 100)]
    | _ => []
/-- the number of the first row of a text -/
def firstW : List D → Str → Option Int
  | [], _ => none
  | .tuple _ [.str z, .int i] :: r, w => if z = w then some i else firstW r w
  | _ :: r, w => firstW r w
theorem look_first : ∀ {more : List (Key × D)} {acc : List (D × D)} {k : Key}, (more.map (·.1)).Nodup → (∀ q ∈ more, look kOf (.inl q.1) acc = none) → look kOf (.inl k) (mergeD acc more) = match more.find? (fun q => decide (q.1 = k)) with
    | some q => some q.2
    | none => look kOf (.inl k) acc
  | [], acc, k, _, _ => rfl
  | (k', d) :: more, acc, k, nd, h => by
    obtain ⟨n1, n2⟩ := List.nodup_cons.mp nd
    have ih := look_first (more := more) (acc := putKs acc (.inl k') (keyD k') d) (k := k) n2 fun q hq => by
      have ne : q.1 ≠ k' := fun e => n1 (List.mem_map.mpr ⟨q, hq, e⟩)
      rw [look_put (kOf_D k'), if_neg (fun w => ne (Sum.inl.inj w))]
      exact h q (List.mem_cons_of_mem _ hq)
    refine (ih : look kOf (.inl k) (mergeD (putKs acc (.inl k') (keyD k') d) more) = _).trans ?_
    rw [List.find?_cons]
    by_cases z : k' = k
    · subst z
      have e0 : more.find? (fun q => decide (q.1 = k')) = none := List.find?_eq_none.mpr fun q hq => by
        simp only [decide_eq_true_eq]
        exact fun e => n1 (List.mem_map.mpr ⟨q, hq, e⟩)
      rw [e0, look_put (kOf_D k'), if_pos rfl]
      simp
    · rw [show decide (k' = k) = false from decide_eq_false z, look_put (kOf_D k'), if_neg (fun w => z (Sum.inl.inj w).symm)]
theorem prs_first (w : Str) : ∀ {ws : List D}, (∀ u ∈ ws, ∃ c z i, u = .tuple c [.str z, .int i]) → ∃ p, prs ws = some p ∧ p.map (fun q => keyD q.1) = ws.map rowK ∧ p.find? (fun q => decide (q.1 = .inr w)) = (firstW ws w).map fun i => (.inr w, .int i)
  | [], _ => ⟨[], rfl, rfl, rfl⟩
  | u :: ws, h => by
    obtain ⟨c, z, i, rfl⟩ := h u List.mem_cons_self
    obtain ⟨p, e1, e2, e3⟩ := prs_first w (ws := ws) fun v hv => h v (List.mem_cons_of_mem _ hv)
    refine ⟨(.inr z, .int i) :: p, ?_, ?_, ?_⟩
    · show (match Dl.keyOf (.str z), prs ws with
        | some q, some rs => some ((q, D.int i) :: rs)
        | _, _ => none) = _
      rw [e1]; rfl
    · rw [List.map_cons, List.map_cons, e2]; rfl
    · rw [List.find?_cons]
      unfold firstW
      by_cases q : z = w
      · subst q
        rw [decide_eq_true rfl, if_pos rfl]; rfl
      · rw [show decide ((Sum.inr z : Key) = .inr w) = false from decide_eq_false fun e => q (Sum.inr.inj e), if_neg q, e3]
theorem num_first {ws : List D} (h : numsU ws) (w : Str) (d : Int) : numOf ws w d = (firstW ws w).getD d := by
  obtain ⟨_, h1, nd, _⟩ := h
  obtain ⟨p, e1, e2, e3⟩ := prs_first w h1
  have nd' : (p.map (·.1)).Nodup := by
    rw [← e2] at nd
    rw [show p.map (fun q => keyD q.1) = (p.map (·.1)).map keyD by rw [List.map_map]; rfl] at nd
    exact List.Pairwise.of_map keyD (fun a b n e => n (by rw [e])) nd
  unfold numOf
  rw [e1]
  have el := look_first (acc := []) (k := .inr w) nd' fun _ _ => rfl
  rw [e3] at el
  show (match (look kOf (.inl (.inr w)) (mergeD [] p)).getD (.int d) with | .int i => i | _ => 0) = _
  rw [el]
  cases firstW ws w <;> rfl
/-- the walk along the rows -/
theorem rows_walk {E : Dn} {c0 : Cell} {w : Str} : ∀ (ws : List D) (c2 c3 : Cell), (∀ u ∈ ws, ∃ c z i, u = .tuple c [.str z, .int i]) → (∀ i, firstW ws w = some i → ∀ ρ, E.rt (.int i) ρ) → (firstW ws w = none → ∀ c2 c3, E.nx [c0, .fro (.str w), c2, c3]) →
    sForL (mgTup 2 (mgCons (mgName 2) (mgCons (mgName 3) mgNil))) (sIf (mTest (mOp oEq (mVar 2) (mVar 1))) (sRet (mVar 3)) sNext) E ws [c0, .fro (.str w), c2, c3]
  | [], c2, c3, _, _, hn => hn rfl c2 c3
  | u :: r, c2, c3, hu, hf, hn => by
    obtain ⟨c, z, i, rfl⟩ := hu u List.mem_cons_self
    have hr := fun v hv => hu v (List.mem_cons_of_mem _ hv)
    unfold firstW at hf hn
    have ih := fun (h1 : ∀ i, firstW r w = some i → ∀ ρ, E.rt (.int i) ρ) (h2 : firstW r w = none → ∀ c2 c3, E.nx [c0, .fro (.str w), c2, c3]) => rows_walk (c0 := c0) r (.fro (.str z)) (.fro (.int i)) hr h1 h2
    unfold sForL
    by_cases q : z = w
    · simp [q] at hf
      simp [mgTup, mgCons, mgName, mgNil, sIf, mTest, mOp, mVar, oEq, sRet, q]
      exact hf _ 
    · simp [q] at hf hn
      simp [mgTup, mgCons, mgName, mgNil, sIf, mTest, mOp, mVar, oEq, sRet, sNext, q, beqS]
      exact ih hf hn
section
variable {ps st : List (D × D)} (g : GH ps st)
include g
/-- all people with their ranks, by the state -/
theorem people_in_s {K : D → List Cell → Prop} (h : K (.dict (pplOf (bOf (dOf ps st "ranks" "") .none) (dOf ps st "begin" ""))) []) : F_people_in [.fro (.dict ps), .fro (.dict st)] K := by
  refine Fof.mk rfl ?_
  rcases dOf_cases g "ranks" "" with ⟨e, e1⟩ | ⟨c', hh, i, e', t, so, wh, ot, to, fi, fi', e, e2, e1, hb⟩
  · rw [e1] at h
    rcases dOf_cases g "begin" "" with ⟨f, f1⟩ | ⟨c2, hh2, i2, e2', t2, so2, wh2, ot2, to2, fi2, fi2', f, f2, f1, hb2⟩
    · rw [f1] at h
      simp [b_people_in, sSeq, sIf, sNext, sRet, mIfE, mTest, mOp, mVar, mC, k_RANKS_KEY, k_BEGIN_KEY, oIn, lk_eq, kof_eq, fits_t g.ts, e, f, mDNew]
      simpa [pplOf, bOf] using h
    · rw [f1] at h
      simp [b_people_in, sSeq, sIf, sNext, sRet, mIfE, mTest, mOp, mVar, mC, k_RANKS_KEY, k_BEGIN_KEY, oIn, lk_eq, kof_eq, kof_nm, fits_t g.ts, fits_t g.th, e, f, f2, oIx, atI, ixN, mDisp1, Dl.keyOf, keyD]
      simpa [pplOf, bOf] using h
  · obtain ⟨c3, us, ws, rfl, ⟨p, ep, hp⟩, hw⟩ := hb.2.1 rfl
    rw [e1] at h
    simp [b_people_in, sSeq, sIf, sRet, mTest, mOp, mVar, mC, k_RANKS_KEY, oIn, lk_eq, kof_eq, kof_nm, fits_t g.ts, fits_t g.th, e, e2, oIx, atI, ixN, mCall, rCons, rNil, cellsOf, slotsOf]
    refine Fof.mk rfl ?_
    simp [b_people_by, sRet, mUn, mOp, mVar, mC, oIx, atI, ixN, oDict_pairs, ep]
    simpa [pplOf, bOf, ep] using h
theorem ppl_get (z : Str) : fits (pplOf (bOf (dOf ps st "ranks" "") .none) (dOf ps st "begin" "")) (.str z) = true ∧ (dLook (pplOf (bOf (dOf ps st "ranks" "") .none) (dOf ps st "begin" "")) (.str z)).getD (.int 0) = .int (rkOf (bOf (dOf ps st "ranks" "") .none) (dOf ps st "begin" "") z) := by
  rcases dOf_cases g "ranks" "" with ⟨e, e1⟩ | ⟨c', hh, i, e', t, so, wh, ot, to, fi, fi', e, e2, e1, hb⟩
  · rw [e1]
    rcases dOf_cases g "begin" "" with ⟨f, f1⟩ | ⟨c2, hh2, i2, e2', t2, so2, wh2, ot2, to2, fi2, fi2', f, f2, f1, hb2⟩
    · rw [f1]
      exact ⟨rfl, rfl⟩
    · rw [f1]
      refine ⟨rfl, ?_⟩
      simp only [pplOf, bOf, rkOf]
      by_cases q : wh2 = z
      · simp [q, dLook, look, kOf, Dl.keyOf]
      · simp [q, dLook, look, kOf, Dl.keyOf]
  · obtain ⟨c3, us, ws, rfl, hu, hw⟩ := hb.2.1 rfl
    rw [e1]
    obtain ⟨p, ep, ef, eg⟩ := num_get hu z 0
    simp only [pplOf, bOf, rkOf, ep]
    exact ⟨ef, eg⟩
theorem rank_in_s {z : Str} {K : D → List Cell → Prop} (h : K (.int (rkOf (bOf (dOf ps st "ranks" "") .none) (dOf ps st "begin" "") z)) []) : F_rank_in [.fro (.dict ps), .fro (.dict st), .fro (.str z)] K := by
  refine Fof.mk rfl ?_
  obtain ⟨ef, eg⟩ := ppl_get g z
  simp [b_rank_in, sRet, mGet2, mCall, rCons, rNil, mVar, cellsOf, slotsOf]
  refine people_in_s g ?_
  simp [putBack, mVar, mC, kOf, Dl.keyOf, ef, eg]
  exact h
theorem rk_nn (z : Str) : 0 ≤ rkOf (bOf (dOf ps st "ranks" "") .none) (dOf ps st "begin" "") z := by
  rcases dOf_cases g "ranks" "" with ⟨e, e1⟩ | ⟨c', hh, i, e', t, so, wh, ot, to, fi, fi', e, e2, e1, hb⟩
  · rw [e1]
    rcases dOf_cases g "begin" "" with ⟨f, f1⟩ | ⟨c2, hh2, i2, e2', t2, so2, wh2, ot2, to2, fi2, fi2', f, f2, f1, hb2⟩
    · rw [f1]; exact Int.le_refl 0
    · rw [f1]
      simp only [bOf, rkOf]
      split <;> omega
  · obtain ⟨c3, us, ws, rfl, hu, hw⟩ := hb.2.1 rfl
    rw [e1]
    exact num_nn hu z (Int.le_refl 0)
theorem wanted_in_s {z : Str} {K : D → List Cell → Prop} (h : K (.int (wtOf (bOf (dOf ps st "ranks" "") .none) z)) []) : F_wanted_in [.fro (.dict ps), .fro (.dict st), .fro (.str z)] K := by
  refine Fof.mk rfl ?_
  have fw : memD (.str z) [.str "call", .str "say"] = decide (z = "call" ∨ z = "say") := by
    simp [memD, toV, eqV, beqS]
  have els : ∀ {c0 c2 c3 : Cell}, ∀ k : D → List Cell → Prop, k (.int (freeW z)) [c0, .fro (.str z), c2, c3] → (sRet (mIfE (mTest (mOp (oIn false) (mVar 1) (mC k_FREE_WORDS))) (mC (.int 0)) (mC (.int 50)))) { nx := fun _ => k .none [], rt := k } [c0, .fro (.str z), c2, c3] := by
    intro c0 c2 c3 k hk
    unfold freeW at hk
    by_cases q : z = "call" ∨ z = "say"
    · simp [sRet, mIfE, mTest, mOp, mVar, mC, oIn, k_FREE_WORDS, flatD, fw, q] at hk ⊢
      simpa [q] using hk
    · simp [sRet, mIfE, mTest, mOp, mVar, mC, oIn, k_FREE_WORDS, flatD, fw, q] at hk ⊢
      simpa [q] using hk
  rcases dOf_cases g "ranks" "" with ⟨e, e1⟩ | ⟨c', hh, i, e', t, so, wh, ot, to, fi, fi', e, e2, e1, hb⟩
  · rw [e1] at h
    simp [b_wanted_in, sRet, mIfE, mTest, mOp, mVar, mC, k_RANKS_KEY, k_NO_RANKS, oIn, lk_eq, kof_eq, fits_t g.ts, e, mCall, rCons, rNil, cellsOf, slotsOf]
    refine Fof.mk rfl ?_
    simp only [wtOf, bOf] at h
    simp [b_wanted_by, ↓sSeq, ↓sFor, mItems, mOp, mVar, mC, oIx, atI, ixN, dTup, sForL]
    exact els _ h
  · obtain ⟨c3, us, ws, rfl, hu, hw⟩ := hb.2.1 rfl
    rw [e1] at h
    simp [b_wanted_in, sRet, mIfE, mTest, mOp, mVar, mC, k_RANKS_KEY, oIn, lk_eq, kof_eq, kof_nm, fits_t g.ts, fits_t g.th, e, e2, oIx, atI, ixN, mCall, rCons, rNil, cellsOf, slotsOf]
    refine Fof.mk rfl ?_
    simp only [wtOf, bOf] at h
    simp [b_wanted_by, ↓sSeq, ↓sFor, mItems, mOp, mVar, mC, oIx, atI, ixN, dTup]
    rw [num_first hw] at h
    refine rows_walk ws .un .un hw.2.1 (fun i hi ρ => ?_) (fun hn c2 c3 => ?_)
    · rw [hi] at h
      exact h
    · rw [hn] at h
      exact els _ h
end
/-- a person: a word at a home -/
def Pn (z h : Str) : Prop := (∃ a, Txt.split z "@" = [a, h]) ∧ z.length + 2 ≤ sizeLine
end K20

namespace K20
open PySem PySem.Spec PyProof.Rows L2 Br Dl
section
variable {ps st : List (D × D)} (g : GH ps st)
include g
/-- a seat is a text -/
theorem seat_str (z : Str) : ∃ y, bOf (dOf ps st "seat" z) (.str "out") = .str y := by
  rcases dOf_cases g "seat" z with ⟨e, e1⟩ | ⟨c', hh, i, e', t, so, wh, ot, to, fi, fi', e, e2, e1, hb⟩
  · rw [e1]; exact ⟨_, rfl⟩
  · obtain ⟨y, rfl⟩ := hb.2.2 (.inl rfl)
    rw [e1]; exact ⟨y, rfl⟩
theorem seat_in_s {z : Str} {K : D → List Cell → Prop} (h : K (bOf (dOf ps st "seat" z) (.str "out")) []) : F_seat_in [.fro (.dict ps), .fro (.dict st), .fro (.str z)] K := by
  refine Fof.mk rfl ?_
  have s2 : 2 ≤ sizeLine := by decide
  rcases dOf_cases g "seat" z with ⟨e, e1⟩ | ⟨c', hh, i, e', t, so, wh, ot, to, fi, fi', e, e2, e1, hb⟩
  · rw [e1] at h
    simp [b_seat_in, sSeq, sSet, sRet, mIfE, mTest, mOp, mVar, mC, mTup, aCons, aNil, s2, oIn, lk_eq, kof_eq, fits_t g.ts, e]
    exact h
  · rw [e1] at h
    simp [b_seat_in, sSeq, sSet, sRet, mIfE, mTest, mOp, mVar, mC, mTup, aCons, aNil, s2, oIn, lk_eq, kof_eq, kof_nm, fits_t g.ts, fits_t g.th, e, e2, oIx, atI, ixN]
    exact h
end
end K20

namespace K20
open PySem PySem.Spec PyProof.Rows L2 Br Dl
/-- a pool -/
def PL (c : Cell) : Prop := ∃ a b : Int, c = .own (.list [.int a, .int b]) ∧ 0 ≤ a ∧ 0 ≤ b ∧ b < 2147483647
theorem take_s {c : Cell} {n : Int} {k : D → List Cell → Prop} (hc : PL c) (hn : 0 < n) (hn2 : n < 1073741824)
    (h : ∀ (t : Int) (c' : Cell), 0 ≤ t → t < n → PL c' → k (.int t) [c']) : F_law_take [c, .fro (.int n)] k := by
  obtain ⟨a, b, rfl, ha, hb, hb2⟩ := hc
  refine Fof.mk rfl ?_
  by_cases h0 : 0 < a
  · simp [b_law_take, sSeq, sIf, mTest, mOp, mOpO, mOwn, mVar, oIx, mC, oCmp, atI, ixN, sSet, sPut, sRet, oMod, oFdiv, oPut, oAdd, oMul, h0, sNext, hn, hn2]
    exact h _ _ (Int.emod_nonneg _ (by omega)) (Int.emod_lt_of_pos _ hn) ⟨_, _, rfl, Int.ediv_nonneg ha (by omega), hb, hb2⟩
  · have n0 : 0 ≤ (b * 69621 + 7) % 2147483647 := Int.emod_nonneg _ (by decide)
    have n1 : (b * 69621 + 7) % 2147483647 < 2147483647 := Int.emod_lt_of_pos _ (by decide)
    have z1 : -18446744073709551616 < b := by omega
    have z2 : b < 18446744073709551616 := by omega
    have z3 : -18446744073709551616 < (b * 69621 + 7) % 2147483647 := by omega
    have z4 : (b * 69621 + 7) % 2147483647 < 18446744073709551616 := by omega
    simp [b_law_take, sSeq, sIf, mTest, mOp, mOpO, mOwn, mVar, oIx, mC, oCmp, atI, ixN, sSet, sPut, sRet, oMod, oFdiv, oPut, oAdd, oMul, h0, sNext, hn, hn2, z1, z2, z3, z4]
    exact h _ _ (Int.emod_nonneg _ (by omega)) (Int.emod_lt_of_pos _ hn) ⟨_, _, rfl, ha, n0, n1⟩
theorem pool_s {ns : List Int} {i : Int} (h0 : 0 ≤ i) (h1 : i < 1000) {k : D → Prop} (h : ∀ a b : Int, 0 ≤ a → 0 ≤ b → b < 2147483647 → k (.list [.int a, .int b])) : F_law_pool [.scr ns, .int i] k := by
  refine ⟨rfl, k, fun _ q => q, ?_⟩
  have rest : ∀ (x : Int), (sSeqF (sSet 3 (mOn oMax (aCons (mVar 2) (aCons (mOp oSub (mUn oNeg (mC (.int 1))) (mVar 2)) aNil))))
    (sSeqF (sSet 4 (mOp oMod (mOp oMul (mOp oAdd (mOp oAdd (mOp oAdd (mOp oMod (mVar 3) (mC (.int 2147483629))) (mOp oMul (mOp oMul (mC (.int 7919)) (mVar 1)) (mVar 1))) (mOp oMul (mC (.int 31)) (mVar 1))) (mC (.int 17))) (mC (.int 48271))) (mC (.int 2147483647))))
    (sRet (mLst (aCons (mOp oMul (mVar 3) (mUn oInt (mOp oGe (mVar 3) (mOp oPow (mC (.int 10)) (mC (.int 18)))))) (aCons (mVar 4) aNil)))))) { nx := fun _ => False, rt := fun d _ => k d } [.fro (.scr ns), .fro (.int i), .fro (.int x), .un, .un] := by
    intro x
    have s2 : 2 ≤ sizeLine := by decide
    have a1 : ∀ y : Int, 0 ≤ y % 2147483629 := fun y => Int.emod_nonneg _ (by decide)
    generalize hs : (if -1 - x > x then -1 - x else x) = sz
    have s0 : 0 ≤ sz := by rw [← hs]; split <;> omega
    have e1 : -18446744073709551616 < i := by omega
    have e2 : i < 18446744073709551616 := by omega
    simp [sSeqF, sSet, mOn, oMax, aCons, aNil, mVar, mOp, mUn, mC, oSub, oNeg, oMod, oMul, oAdd, sRet, mLst, oInt, oCmp, oPow, s2, e1, e2]
    simp [hs]
    refine ⟨.inr (by split <;> omega), h _ _ (Int.mul_nonneg s0 (by split <;> omega)) (Int.emod_nonneg _ (by decide)) (Int.emod_lt_of_pos _ (by decide))⟩
  by_cases c : i < ns.length
  · have hl : i.toNat < ns.length := by omega
    have ha : atI ns i = some (ns[i.toNat]'hl) := by
      have := atI_nat (xs := ns) (j := i.toNat) (List.getElem?_eq_getElem hl)
      rwa [Int.toNat_of_nonneg h0] at this
    show if decide (i < ns.length) = true then (match atI ns i with | some n => _ | none => False) else _
    rw [if_pos (decide_eq_true c), ha]
    exact rest _
  · show if decide (i < ns.length) = true then _ else _
    rw [if_neg (by rw [decide_eq_false c]; decide)]
    exact rest _
end K20

namespace K20
open PySem PySem.Spec PyProof.Rows L2 Br Dl
/-- behind the argument of a call that draws from slot j -/
def Aft (F : Fs) (j : Nat) (k : D → Cs → Prop) (d : D) (ρ : Cs) : Prop := (slotsOf [.inl j, .inr d]).Nodup ∧ slotsOf (([.inl j, .inr d] : List Ar).drop 1) = [] ∧ match cellsOf ρ [.inl j, .inr d] with
  | some cs => F cs fun r cs' => k r (putBack ρ [.inl j, .inr d] cs')
  | none => False
theorem aft {F : Fs} {j : Nat} {k : D → Cs → Prop} {d x : D} {ρ : Cs} (hj : ρ[j]? = some (.own x)) (h : F [.own x, .fro d] fun r cs' => k r (putBack ρ [.inl j, .inr d] cs')) : Aft F j k d ρ := by
  refine ⟨by simp [slotsOf], rfl, ?_⟩
  have e : cellsOf ρ [.inl j, .inr d] = some [.own x, .fro d] := by simp [cellsOf, hj]
  rw [e]
  exact h
theorem call_j {F : Fs} {j : Nat} {m : ME} {k : D → Cs → Prop} {x : D} {ρ : Cs} (hj : ρ[j]? = some (.own x)) (h : m ρ (Aft F j k)) : mCall F 1 (rOwn j (rCons m rNil)) ρ k := by
  show mOwn j ρ fun _ _ => m ρ (Aft F j k)
  unfold mOwn
  rw [hj]
  exact h
theorem call_take {j : Nat} {m : ME} {n : Int} {k : D → Cs → Prop} {c : Cell} {ρ : Cs} (hj : ρ[j]? = some c) (p : PL c) (hm : ∀ k' : D → Cs → Prop, k' (.int n) ρ → m ρ k') (hn : 0 < n) (hn2 : n < 1073741824)
    (h : ∀ (t : Int) (c' : Cell), 0 ≤ t → t < n → PL c' → k (.int t) (ρ.set j c')) : mCall F_law_take 1 (rOwn j (rCons m rNil)) ρ k := by
  obtain ⟨a, b, rfl, p'⟩ := id p
  exact call_j hj (hm _ (aft hj (take_s p hn hn2 fun t c' h0 h1 hc => h t c' h0 h1 hc)))
def low (z : Str) : Prop := ∀ c ∈ z.cps.toList, 97 ≤ c ∧ c ≤ 122
theorem abc_at {r : Int} (h0 : 0 ≤ r) (h1 : r < 26) : ∃ c, atI ("abcdefghijklmnopqrstuvwxyz" : Str).cps.toList r = some c ∧ (97 ≤ c ∧ c ≤ 122) := by
  have hl : ("abcdefghijklmnopqrstuvwxyz" : Str).cps.toList.length = 26 := by decide +kernel
  have e : ((r.toNat : Nat) : Int) = r := Int.toNat_of_nonneg h0
  refine ⟨("abcdefghijklmnopqrstuvwxyz" : Str).cps.toList[r.toNat]'(by omega), ?_⟩
  have q : atI ("abcdefghijklmnopqrstuvwxyz" : Str).cps.toList ((r.toNat : Nat) : Int) = some _ := atI_nat (List.getElem?_eq_getElem (by omega))
  rw [e] at q
  have all : ∀ c ∈ ("abcdefghijklmnopqrstuvwxyz" : Str).cps.toList, 97 ≤ c ∧ c ≤ 122 := by decide +kernel
  exact ⟨q, all _ (List.getElem_mem _)⟩
theorem join_flat : ∀ ys : List Str, (Str.join "" ys).cps.toList = (ys.map fun y => y.cps.toList).flatten
  | [] => rfl
  | [y] => (List.append_nil _).symm
  | x :: y :: r => by
    have e : (Str.join "" (x :: y :: r)).cps.toList = (x.cps.toList ++ []) ++ (Str.join "" (y :: r)).cps.toList := by
      show (x ++ "" ++ Str.join "" (y :: r)).cps.toList = _
      exact (Array.toList_append (xs := (x ++ "").cps)).trans (congrArg (· ++ _) Array.toList_append)
    rw [e, join_flat (y :: r), List.append_nil]
    rfl
theorem low_join {ys : List Str} (h : ∀ y ∈ ys, y.length = 1 ∧ low y) : low (Str.join "" ys) := fun c hc => by
  rw [join_flat] at hc
  obtain ⟨l, hl, hcl⟩ := List.mem_flatten.mp hc
  obtain ⟨y, hy, rfl⟩ := List.mem_map.mp hl
  exact (h y hy).2 c hcl
theorem ones_len : ∀ {ys : List Str}, (∀ y ∈ ys, y.length = 1 ∧ low y) → ((ys.map fun y => y.cps.toList).flatten).length = ys.length ∧ (ys.map (·.length)).sum = ys.length
  | [], _ => ⟨rfl, rfl⟩
  | y :: ys, h => by
    obtain ⟨i1, i2⟩ := ones_len fun z hz => h z (List.mem_cons_of_mem _ hz)
    have := (h y List.mem_cons_self).1
    have e : y.cps.toList.length = y.length := Array.length_toList
    rw [List.map_cons, List.flatten_cons, List.length_append, i1, List.length_cons, List.map_cons, List.sum_cons, i2]
    exact ⟨by omega, by omega⟩
theorem strsOf_map : ∀ ys : List Str, strsOf (ys.map D.str) = some ys
  | [] => rfl
  | y :: ys => by
    show (strsOf (ys.map D.str)).map (y :: ·) = _
    rw [strsOf_map ys]; rfl
theorem lcL_yes {i : Nat} {me : ME} {vs : List Nat} {k : List D → Cs → Prop} {x : D} {r acc : List D} {ρ : Cs} (h : me (ρ.set i (.fro x)) fun d ρ3 => mLcL (mgName i) mYes me vs k r (acc ++ [d]) (wipeC ρ3 vs)) : mLcL (mgName i) mYes me vs k (x :: r) acc ρ := by
  unfold mLcL
  exact Eq.mpr (if_pos (c := true = true) (t := me (ρ.set i (.fro x)) fun d ρ3 => mLcL (mgName i) mYes me vs k r (acc ++ [d]) (wipeC ρ3 vs)) (e := mLcL (mgName i) mYes me vs k r acc (wipeC (ρ.set i (.fro x)) vs)) rfl) h
theorem op_var {o : O2} {i : Nat} {d : D} {m : ME} {k : D → Cs → Prop} {ρ : Cs} (h : ρ[i]? = some (.fro d)) (q : m ρ fun db ρ2 => o d db fun r => k r ρ2) : mOp o (mVar i) m ρ k := by
  unfold mOp mVar
  rw [h]
  exact q
theorem letters_L {n : D} {K : List D → Cs → Prop} : ∀ (xs : List D) (ys : List Str) (c : Cell), PL c → (∀ y ∈ ys, y.length = 1 ∧ low y) →
    (∀ (ys' : List Str) (c' : Cell), PL c' → ys'.length = ys.length + xs.length → (∀ y ∈ ys', y.length = 1 ∧ low y) → K (ys'.map .str) [c', .fro n, .fro (.str "abcdefghijklmnopqrstuvwxyz"), .un]) →
    mLcL (mgName 3) mYes (mOp oIx (mVar 2) (mCall F_law_take 1 (rOwn 0 (rCons (mC (.int 26)) rNil)))) [3] K xs (ys.map .str) [c, .fro n, .fro (.str "abcdefghijklmnopqrstuvwxyz"), .un]
  | [], ys, c, p, hy, h => h ys c p rfl hy
  | x :: xs, ys, c, p, hy, h => by
    refine lcL_yes (op_var rfl ?_)
    refine call_take rfl p (fun _ z => z) (by decide) (by decide) fun t c' t0 t1 pc => ?_
    obtain ⟨s, hs, h8⟩ := abc_at t0 t1
    show _ ∧ _
    refine ⟨by decide, ?_⟩
    show match atI ("abcdefghijklmnopqrstuvwxyz" : Str).cps.toList t with | some c => _ | none => False
    rw [hs]
    show mLcL _ _ _ _ K xs (ys.map D.str ++ [.str ⟨#[s]⟩]) _
    have e : ys.map D.str ++ [.str ⟨#[s]⟩] = (ys ++ [(⟨#[s]⟩ : Str)]).map D.str := by rw [List.map_append]; rfl
    rw [e]
    refine letters_L xs (ys ++ [⟨#[s]⟩]) c' pc (fun y my => ?_) (fun ys' c2 p2 l2 => h ys' c2 p2 (by rw [l2, List.length_append, List.length_cons, List.length_cons, List.length_nil]; omega))
    rcases List.mem_append.mp my with z | z
    · exact hy y z
    · rw [List.mem_singleton.mp z]
      exact ⟨rfl, fun d hd => by rw [List.mem_singleton.mp hd]; exact h8⟩
theorem letters_s {c : Cell} {n : Int} {k : D → List Cell → Prop} (p : PL c) (h0 : 0 ≤ n) (h1 : n < 100) (h : ∀ (z : Str) (c' : Cell), low z → z.length = n.toNat → PL c' → k (.str z) [c']) : F_law_letters [c, .fro (.int n)] k := by
  refine Fof.mk rfl ?_
  show -(2 ^ 62) ≤ n ∧ n < 2 ^ 62 ∧ (intsD 0 n.toNat).length ≤ sizeLine ∧ _
  have ln : (intsD 0 n.toNat).length = n.toNat := by unfold intsD; rw [List.length_map, List.length_range]
  have hs : 100 ≤ sizeLine := by decide
  refine ⟨by omega, by omega, by omega, ?_⟩
  refine letters_L (n := .int n) (intsD 0 n.toNat) [] c p (fun _ z => nomatch z) fun ys c' p' l hy => ?_
  obtain ⟨o1, o2⟩ := ones_len hy
  have ey : (seqOf (.list (ys.map D.str))).bind strsOf = some ys := strsOf_map ys
  show match (seqOf (.list (ys.map D.str))).bind strsOf with | some ys => _ | none => False
  rw [ey]
  rw [ln] at l
  have l' : ys.length = n.toNat := by simpa using l
  have ej : Txt.join "" ys = Str.join "" ys := StrLaws.glued_eq_join ..
  refine ⟨?_, ?_⟩
  · show (ys.map (·.length)).sum + ys.length * 0 ≤ 16777216
    omega
  · refine h _ c' ?_ ?_ p'
    · rw [ej]; exact low_join hy
    · rw [ej, ← l', ← o1, ← join_flat]; exact Array.length_toList.symm
theorem call_letters {j : Nat} {m : ME} {k : D → Cs → Prop} {x : D} {ρ : Cs} (hj : ρ[j]? = some (.own x)) (hm : ∀ k' : D → Cs → Prop, (∀ (n : Int) (c : Cell), PL c → 0 ≤ n → n < 100 → k' (.int n) (ρ.set j c)) → m ρ k')
    (h : ∀ (z : Str) (c' : Cell), low z → z.length < 100 → PL c' → k (.str z) (ρ.set j c')) : mCall F_law_letters 1 (rOwn j (rCons m rNil)) ρ k := by
  refine call_j hj (hm _ fun n c p n0 n1 => ?_)
  have hl : j < ρ.length := by
    have := hj
    exact (List.getElem?_eq_some_iff.mp this).1
  obtain ⟨a, b, rfl, p'⟩ := id p
  refine aft (x := .list [.int a, .int b]) (by rw [List.getElem?_set_self hl]) (letters_s p n0 n1 fun z c' lz ez pc => ?_)
  show k (.str z) ((ρ.set j _).set j c')
  rw [List.set_set]
  exact h z c' lz (by omega) pc
end K20

namespace K20
open PySem PySem.Spec PyProof.Rows L2 Br Dl
theorem op_any {o : O2} {ma mb : ME} {k : D → Cs → Prop} {ρ : Cs} (q : ma ρ fun da ρ1 => mb ρ1 fun db ρ2 => o da db fun r => k r ρ2) : mOp o ma mb ρ k := q
theorem op_c {o : O2} {d : D} {mb : ME} {k : D → Cs → Prop} {ρ : Cs} (q : mb ρ fun db ρ2 => o d db fun r => k r ρ2) : mOp o (mC d) mb ρ k := q
theorem seq_set {i : Nat} {m : ME} {b : MS} {E : Dn} {ρ : Cs} (q : m ρ fun d ρ1 => b E (ρ1.set i (.fro d))) : sSeq (sSet i m) b E ρ := q
theorem len_app (x y : Str) : (x ++ y).length = x.length + y.length := Array.size_append
theorem low_app {x y : Str} (a : low x) (b : low y) : low (x ++ y) := fun c hc => by
  have e : (x ++ y).cps.toList = x.cps.toList ++ y.cps.toList := Array.toList_append
  rw [e] at hc
  exact (List.mem_append.mp hc).elim (a c) (b c)
/-- a person as drawn -/
def Pd (z : Str) : Prop := ∃ w h, low w ∧ low h ∧ (1 ≤ w.length ∧ w.length ≤ 4) ∧ (1 ≤ h.length ∧ h.length ≤ 3) ∧ z = w ++ "@" ++ h
theorem Pd.split {w h : Str} (a : low w) (b : low h) : Txt.split (w ++ "@" ++ h) "@" = [w, h] :=
  split_two (c := 64) (fun z => by have := a 64 z; omega) (fun z => by have := b 64 z; omega)
theorem Pd.pn {z : Str} (p : Pd z) : ∃ h, Pn z h := by
  obtain ⟨w, h, a, b, l1, l2, rfl⟩ := p
  refine ⟨h, ⟨w, Pd.split a b⟩, ?_⟩
  rw [len_app, len_app]
  have : (Str.ofString "@").length = 1 := by decide
  have s : 1000 ≤ sizeLine := by decide
  omega
theorem xyz_at {r : Int} (h0 : 0 ≤ r) (h1 : r < 6) : ∃ c, atI ("xyzuvw" : Str).cps.toList r = some c ∧ (97 ≤ c ∧ c ≤ 122) := by
  have hl : ("xyzuvw" : Str).cps.toList.length = 6 := by decide +kernel
  have e : ((r.toNat : Nat) : Int) = r := Int.toNat_of_nonneg h0
  refine ⟨("xyzuvw" : Str).cps.toList[r.toNat]'(by omega), ?_⟩
  have q : atI ("xyzuvw" : Str).cps.toList ((r.toNat : Nat) : Int) = some _ := atI_nat (List.getElem?_eq_getElem (by omega))
  rw [e] at q
  have all : ∀ c ∈ ("xyzuvw" : Str).cps.toList, 97 ≤ c ∧ c ≤ 122 := by decide +kernel
  exact ⟨q, all _ (List.getElem_mem _)⟩
/-- 1 + a drawn number -/
theorem one_take {j : Nat} {n : Int} {k : D → Cs → Prop} {c : Cell} {ρ : Cs} (hj : ρ[j]? = some c) (p : PL c) (hn : 0 < n) (hn2 : n < 99)
    (h : ∀ (t : Int) (c' : Cell), PL c' → 1 ≤ t → t ≤ n → k (.int t) (ρ.set j c')) : mOp oAdd (mC (.int 1)) (mCall F_law_take 1 (rOwn j (rCons (mC (.int n)) rNil))) ρ k := by
  refine op_c (call_take hj p (fun _ z => z) hn (by omega) fun t c' t0 t1 pc => ?_)
  exact h (1 + t) c' pc (by omega) (by omega)
theorem call_letters2 {j lo hi : Nat} {m : ME} {k : D → Cs → Prop} {c0 : Cell} {ρ : Cs} (hj : ρ[j]? = some c0) (p0 : PL c0) (hb : hi < 100) (hm : ∀ k' : D → Cs → Prop, (∀ (n : Int) (c : Cell), PL c → (lo : Int) ≤ n → n ≤ hi → k' (.int n) (ρ.set j c)) → m ρ k')
    (h : ∀ (z : Str) (c' : Cell), low z → lo ≤ z.length → z.length ≤ hi → PL c' → k (.str z) (ρ.set j c')) : mCall F_law_letters 1 (rOwn j (rCons m rNil)) ρ k := by
  obtain ⟨a0, b0', rfl, _⟩ := id p0
  refine call_j hj (hm _ fun n c p n0 n1 => ?_)
  have hl : j < ρ.length := (List.getElem?_eq_some_iff.mp hj).1
  obtain ⟨a, b, rfl, p'⟩ := id p
  refine aft (x := .list [.int a, .int b]) (by rw [List.getElem?_set_self hl]) (letters_s p (by omega) (by omega) fun z c' lz ez pc => ?_)
  show k (.str z) ((ρ.set j _).set j c')
  rw [List.set_set]
  exact h z c' lz (by omega) (by omega) pc
theorem call_word {j n : Nat} {k : D → Cs → Prop} {c : Cell} {ρ : Cs} (hj : ρ[j]? = some c) (p : PL c) (hn : 0 < n) (hn2 : n < 99)
    (h : ∀ (z : Str) (c' : Cell), low z → (1 ≤ z.length ∧ z.length ≤ n) → PL c' → k (.str z) (ρ.set j c')) : mCall F_law_letters 1 (rOwn j (rCons (mOp oAdd (mC (.int 1)) (mCall F_law_take 1 (rOwn j (rCons (mC (.int n)) rNil)))) rNil)) ρ k :=
  call_letters2 (lo := 1) (hi := n) hj p (by omega) (fun k' hk => one_take hj p (by omega) (by omega) fun t c' pc t0 t1 => hk t c' pc t0 t1) fun z c' lz z1 z2 pc => h z c' lz ⟨z1, z2⟩ pc
/-- a person as drawn, the i-th -/
def Pk (i : Int) (z : Str) : Prop := ∃ (w h : Str) (y : Nat), low w ∧ low h ∧ w.length ≤ 2 ∧ (1 ≤ h.length ∧ h.length ≤ 3) ∧ atI ("xyzuvw" : Str).cps.toList i = some y ∧ (97 ≤ y ∧ y ≤ 122) ∧ z = w ++ ⟨#[y]⟩ ++ "@" ++ h
theorem Pk.pd {i : Int} {z : Str} (p : Pk i z) : Pd z := by
  obtain ⟨w, h, y, lw, lh, nw, nh, _, hy, rfl⟩ := p
  have ny : (⟨#[y]⟩ : Str).length = 1 := rfl
  have nw1 := len_app w ⟨#[y]⟩
  exact ⟨w ++ ⟨#[y]⟩, h, low_app lw fun d hd => by rw [List.mem_singleton.mp hd]; exact hy, lh, by omega, nh, rfl⟩
/-- of one word, of another house -/
def Tw (b z : Str) : Prop := ∃ w h h' : Str, low w ∧ low h ∧ low h' ∧ h ≠ h' ∧ b = w ++ "@" ++ h ∧ z = w ++ "@" ++ h'
theorem Tw.ne {b z : Str} (t : Tw b z) : b ≠ z := by
  obtain ⟨w, h, h', lw, lh, lh', ne, rfl, rfl⟩ := t
  intro e
  have e1 := Pd.split lw lh
  have e2 := Pd.split lw lh'
  rw [e, e2] at e1
  injection e1 with _ e1
  injection e1 with e1 _
  exact ne e1.symm
theorem last_word {w w' : Str} {y y' : Nat} (e : w ++ (⟨#[y]⟩ : Str) = w' ++ ⟨#[y']⟩) : y = y' := by
  have e1 : (w ++ (⟨#[y]⟩ : Str)).cps.toList = w.cps.toList ++ [y] := Array.toList_append
  have e2 : (w' ++ (⟨#[y']⟩ : Str)).cps.toList = w'.cps.toList ++ [y'] := Array.toList_append
  rw [e, e2] at e1
  have := congrArg List.getLast? e1
  simpa using this.symm
theorem Pk.low1 {w : Str} {y : Nat} (lw : low w) (hy : 97 ≤ y ∧ y ≤ 122) : low (w ++ (⟨#[y]⟩ : Str)) := low_app lw fun d hd => by rw [List.mem_singleton.mp hd]; exact hy
theorem Pk.ne {i j : Int} {y z : Str} (p : Pk i y) (q : Pk j z) (hn : atI ("xyzuvw" : Str).cps.toList i ≠ atI ("xyzuvw" : Str).cps.toList j) : y ≠ z := by
  obtain ⟨w, h, c, lw, lh, nw, nh, ec, hc, rfl⟩ := p
  obtain ⟨w', h', c', lw', lh', nw', nh', ec', hc', rfl⟩ := q
  intro e
  have e1 := Pd.split (Pk.low1 lw hc) lh
  have e2 := Pd.split (Pk.low1 lw' hc') lh'
  rw [e, e2] at e1
  injection e1 with e1 _
  rw [ec, ec', last_word e1] at hn
  exact hn rfl
theorem Pk.tw {i j : Int} {y b z : Str} (p : Pk i y) (q : Pk j b) (t : Tw b z) (hn : atI ("xyzuvw" : Str).cps.toList i ≠ atI ("xyzuvw" : Str).cps.toList j) : y ≠ z := by
  obtain ⟨w, h, c, lw, lh, nw, nh, ec, hc, rfl⟩ := p
  obtain ⟨w', h', c', lw', lh', nw', nh', ec', hc', rfl⟩ := q
  obtain ⟨w2, h2, h3, l2, l3, l4, _, e, rfl⟩ := t
  intro ez
  have e1 := Pd.split (Pk.low1 lw hc) lh
  have e2 := Pd.split l2 l4
  rw [ez, e2] at e1
  have e3 := Pd.split (Pk.low1 lw' hc') lh'
  have e4 := Pd.split l2 l3
  rw [e, e4] at e3
  injection e1 with e1 _
  injection e3 with e3 _
  rw [ec, ec', last_word (e1.symm.trans e3)] at hn
  exact hn rfl
theorem home_at {h0 h1 : Str} {t : Int} {k : D → Prop} (t0 : 0 ≤ t) (t1 : t < 2) (a0 : k (.str h0)) (a1 : k (.str h1)) : oIx (.list [.str h0, .str h1]) (.int t) k := by
  have : t = 0 ∨ t = 1 := by omega
  rcases this with rfl | rfl
  · exact a0
  · exact a1
def folk_body : MS := (sSeq (sSet 6 (mOp oAdd (mCall F_law_letters 1 (rOwn 0 (rCons (mOp oAdd (mC (.int 1)) (mCall F_law_take 1 (rOwn 0 (rCons (mC (.int 2)) rNil)))) rNil))) (mOp oIx (mC (.str "xyzuvw")) (mVar 5))))
    (sAppend 4 (mOp oAdd (mOp oAdd (mVar 6) (mC (.str "@"))) (mOp oIx (mVar 2) (mCall F_law_take 1 (rOwn 0 (rCons (mC (.int 2)) rNil)))))))
theorem folk_step {E : Dn} {c x6 : Cell} {n : D} {h0 h1 : Str} {zs : List Str} {i : Int} (p : PL c) (i0 : 0 ≤ i) (i1 : i < 6) (l0 : low h0) (l1 : low h1) (n0 : (1 ≤ h0.length ∧ h0.length ≤ 3)) (n1 : (1 ≤ h1.length ∧ h1.length ≤ 3)) (hl : zs.length < 100)
    (h : ∀ (c' x6' : Cell) (z : Str), PL c' → Pk i z → E.nx [c', .fro n, .fro (.list [.str h0, .str h1]), .un, .own (.list ((zs ++ [z]).map .str)), .fro (.int i), x6', .un]) :
    folk_body E [c, .fro n, .fro (.list [.str h0, .str h1]), .un, .own (.list (zs.map .str)), .fro (.int i), x6, .un] := by
  have s : 1000 ≤ sizeLine := by decide
  refine seq_set (op_any ?_)
  refine call_word (n := 2) rfl p (by decide) (by decide) fun w c1 lw nw p1 => ?_
  obtain ⟨y, ey, hy⟩ := xyz_at i0 i1
  show _ ∧ _
  refine ⟨by decide, ?_⟩
  show match atI ("xyzuvw" : Str).cps.toList i with | some c => _ | none => False
  rw [ey]
  have ny : (⟨#[y]⟩ : Str).length = 1 := rfl
  refine ⟨by omega, ?_⟩
  have nw1 := len_app w ⟨#[y]⟩
  generalize ew : w ++ (⟨#[y]⟩ : Str) = w1 at nw1 ⊢
  have na : (Str.ofString "@").length = 1 := by decide
  refine ⟨⟨_, rfl⟩, ?_⟩
  refine ⟨by omega, ?_⟩
  refine op_var rfl ?_
  refine call_take rfl p1 (fun _ z => z) (by decide) (by decide) fun t c2 t0 t1 p2 => ?_
  have nw2 := len_app w1 "@"
  have fin : ∀ hh : Str, low hh → (1 ≤ hh.length ∧ hh.length ≤ 3) → oAdd (.str (w1 ++ "@")) (.str hh) fun d => (zs.map D.str).length < sizeLine ∧ E.nx [c2, .fro n, .fro (.list [.str h0, .str h1]), .un, .own (.list (zs.map D.str ++ [d])), .fro (.int i), .fro (.str w1), .un] := by
    intro hh lh nh
    refine ⟨by omega, ?_⟩
    refine ⟨by rw [List.length_map]; omega, ?_⟩
    have e : zs.map D.str ++ [.str (w1 ++ "@" ++ hh)] = (zs ++ [w1 ++ "@" ++ hh]).map D.str := by rw [List.map_append]; rfl
    show E.nx [c2, .fro n, .fro (.list [.str h0, .str h1]), .un, .own (.list (zs.map D.str ++ [.str (w1 ++ "@" ++ hh)])), .fro (.int i), .fro (.str w1), .un]
    rw [e]
    exact h c2 _ _ p2 ⟨w, hh, y, lw, lh, by omega, by omega, ey, hy, by rw [ew]⟩
  exact home_at t0 t1 (fin h0 l0 n0) (fin h1 l1 n1)
def folk_put : MS := (sSeq (sSet 7 (mSplit (mOpO oIx 4 (mC (.int 1))) (mC (.str "@"))))
    (sPut 4 (mOp oAdd (mOp oAdd (mOp oIx (mVar 7) (mC (.int 0))) (mC (.str "@"))) (mOp oIx (mVar 2) (mUn oInt (mOp oEq (mOp oIx (mVar 7) (mC (.int 1))) (mOp oIx (mVar 2) (mC (.int 0))))))) (mUn oNeg (mC (.int 1)))))
def folk_tail : MS := (sSeq (sIf (mAnd (mTest (mOp oNe (mOp oIx (mVar 2) (mC (.int 0))) (mOp oIx (mVar 2) (mC (.int 1))))) (mTest (mOp oEq (mCall F_law_take 1 (rOwn 0 (rCons (mC (.int 3)) rNil))) (mC (.int 0))))) folk_put sNext) (sRet (mFrz 4)))
def folk_homes : ME := (mLc (mRng1 (aCons (mC (.int 2)) aNil)) (mgName 3) mYes (mCall F_law_letters 1 (rOwn 0 (rCons (mOp oAdd (mC (.int 1)) (mCall F_law_take 1 (rOwn 0 (rCons (mC (.int 3)) rNil)))) rNil))) [3])
theorem folk_eq : b_law_folk = (sSeq (mFro 2 (sSetO 2 folk_homes)) (sSeq (sSetO 4 (mLst aNil)) (sSeq (sFor (mRng1 (aCons (mVar 1) aNil)) (mgName 5) folk_body) folk_tail))) := rfl
theorem folk_put_s {E : Dn} {c x5 x6 : Cell} {n : D} {h0 h1 a b d e : Str} (p : PL c) (l0 : low h0) (l1 : low h1) (n0 : (1 ≤ h0.length ∧ h0.length ≤ 3)) (n1 : (1 ≤ h1.length ∧ h1.length ≤ 3)) (hne : h0 ≠ h1) (pb : Pd b)
    (h : ∀ (x : Cell) (z : Str), Tw b z → Pd z → E.nx [c, .fro n, .fro (.list [.str h0, .str h1]), .un, .own (.list [.str a, .str b, .str d, .str z]), x5, x6, x]) :
    folk_put E [c, .fro n, .fro (.list [.str h0, .str h1]), .un, .own (.list [.str a, .str b, .str d, .str e]), x5, x6, .un] := by
  obtain ⟨hh, ⟨w, es⟩, el⟩ := id pb.pn
  obtain ⟨w', h', a1, a2, a3, a4, e'⟩ := pb
  have es' := Pd.split a1 a2
  rw [← e', es] at es'
  injection es' with q1 es'
  injection es' with q2 _
  subst q1 q2
  have t1 : ((Str.ofString "@").length == 0) = false := by decide
  have t2 : ((Str.ofString "@").length = 0) = False := by decide
  have na : (Str.ofString "@").length = 1 := by decide
  have s : 1000 ≤ sizeLine := by decide
  have nw := len_app w "@"
  have m1 : w.length + (Str.ofString "@").length ≤ sizeLine := by omega
  have m2 : (w ++ Str.ofString "@").length + h0.length ≤ sizeLine := by omega
  have m3 : (w ++ Str.ofString "@").length + h1.length ≤ sizeLine := by omega
  by_cases q : hh = h0
  · have := h (.fro (.list [.str w, .str hh])) (w ++ "@" ++ h1) ⟨w, hh, h1, a1, a2, l1, by rw [q]; exact hne, e', rfl⟩ ⟨w, h1, a1, l1, a3, by omega, rfl⟩
    simp [folk_put, ↓sSeq, ↓sSet, ↓mSplit, ↓mOpO, ↓mOwn, ↓mOp, ↓mVar, ↓mC, ↓oIx, atI, ixN, es, el, t1, t2, ↓sPut, ↓mUn, ↓oInt, ↓oEq, ↓oNeg, ↓oAdd, ↓oPut, q, m1, m2, m3]
    simpa [q] using this
  · have := h (.fro (.list [.str w, .str hh])) (w ++ "@" ++ h0) ⟨w, hh, h0, a1, a2, l0, q, e', rfl⟩ ⟨w, h0, a1, l0, a3, by omega, rfl⟩
    simp [folk_put, ↓sSeq, ↓sSet, ↓mSplit, ↓mOpO, ↓mOwn, ↓mOp, ↓mVar, ↓mC, ↓oIx, atI, ixN, es, el, t1, t2, ↓sPut, ↓mUn, ↓oInt, ↓oEq, ↓oNeg, ↓oAdd, ↓oPut, q, m1, m2, m3]
    simpa using this
theorem folk_tail_s {E : Dn} {c x5 x6 : Cell} {n : D} {h0 h1 a b d e : Str} (p : PL c) (l0 : low h0) (l1 : low h1) (n0 : (1 ≤ h0.length ∧ h0.length ≤ 3)) (n1 : (1 ≤ h1.length ∧ h1.length ≤ 3)) (pa : Pd a) (pb : Pd b) (pd : Pd d) (pe : Pd e)
    (h : ∀ (c' x5 x6 x7 : Cell) (z : Str), PL c' → (z = e ∨ Tw b z) → Pd z → E.rt (.list [.str a, .str b, .str d, .str z]) [c', .fro n, .fro (.list [.str h0, .str h1]), .un, .fro (.list [.str a, .str b, .str d, .str z]), x5, x6, x7]) :
    folk_tail E [c, .fro n, .fro (.list [.str h0, .str h1]), .un, .own (.list [.str a, .str b, .str d, .str e]), x5, x6, .un] := by
  by_cases q : h0 = h1
  · have := h c x5 x6 .un e p (.inl rfl) pe
    simp [folk_tail, ↓sSeq, ↓sIf, ↓mAnd, ↓mTest, ↓mOp, ↓mVar, ↓mC, ↓oIx, atI, ixN, ↓oNe, q, ↓sNext, ↓sRet, ↓mFrz]
    simpa [q] using this
  · have st : folk_tail E [c, .fro n, .fro (.list [.str h0, .str h1]), .un, .own (.list [.str a, .str b, .str d, .str e]), x5, x6, .un] = (if (!decide (h0 = h1)) = true then (mCall F_law_take 1 (rOwn 0 (rCons (mC (.int 3)) rNil)) [c, .fro n, .fro (.list [.str h0, .str h1]), .un, .own (.list [.str a, .str b, .str d, .str e]), x5, x6, .un] fun da ρ1 => oEq da (.int 0) fun r => (mTest (fun ρ k => k r ρ)) ρ1 fun b ρ2 => if b = true then folk_put { E with nx := sRet (mFrz 4) E } ρ2 else sRet (mFrz 4) E ρ2) else _) := rfl
    rw [st, if_pos (by simp [q])]
    refine call_take rfl p (fun _ z => z) (by decide) (by decide) fun t c2 t0 t1 p2 => ?_
    show if decide (t = 0) = true then _ else _
    by_cases q0 : t = 0
    · rw [if_pos (decide_eq_true q0)]
      refine folk_put_s p2 l0 l1 n0 n1 q pb fun x z tw pz => ?_
      exact h _ _ _ _ _ p2 (.inr tw) pz
    · rw [if_neg (by rw [decide_eq_false q0]; decide)]
      exact h _ _ _ _ _ p2 (.inl rfl) pe
theorem homes_s {c : Cell} {n x2 x4 x5 x6 x7 : Cell} {k : D → Cs → Prop} (p : PL c) (h : ∀ (c' : Cell) (h0 h1 : Str), PL c' → low h0 → low h1 → (1 ≤ h0.length ∧ h0.length ≤ 3) → (1 ≤ h1.length ∧ h1.length ≤ 3) → k (.list [.str h0, .str h1]) [c', n, x2, .un, x4, x5, x6, x7]) :
    folk_homes [c, n, x2, .un, x4, x5, x6, x7] k := by
  have s : 100 ≤ sizeLine := by decide
  show -(2 ^ 62) ≤ (2 : Int) ∧ (2 : Int) < 2 ^ 62 ∧ (2 : Nat) ≤ sizeLine ∧ mLcL (mgName 3) mYes _ [3] (fun ds ρ2 => k (.list ds) ρ2) [.int 0, .int 1] [] [c, n, x2, .un, x4, x5, x6, x7]
  refine ⟨by omega, by omega, by omega, lcL_yes ?_⟩
  refine call_word (n := 3) rfl p (by decide) (by decide) fun z c1 lz nz p1 => ?_
  refine lcL_yes ?_
  refine call_word (n := 3) rfl p1 (by decide) (by decide) fun y c2 ly ny p2 => ?_
  exact h c2 z y p2 lz ly nz ny
theorem seq_froO {i : Nat} {m : ME} {b : MS} {E : Dn} {ρ : Cs} (q : m ρ fun d ρ1 => mFrz i (ρ1.set i (.own d)) fun _ ρ2 => b E ρ2) : sSeq (mFro i (sSetO i m)) b E ρ := q
theorem frz_at {i : Nat} {d : D} {ρ : Cs} {k : D → Cs → Prop} (h : ρ[i]? = some (.own d)) (q : k d (ρ.set i (.fro d))) : mFrz i ρ k := by
  unfold mFrz
  rw [h]
  exact q
theorem seq_setO {i : Nat} {m : ME} {b : MS} {E : Dn} {ρ : Cs} (q : m ρ fun d ρ1 => b E (ρ1.set i (.own d))) : sSeq (sSetO i m) b E ρ := q
theorem seq_for {mi : MI} {mg : MG} {bd b : MS} {E : Dn} {ρ : Cs} (q : mi ρ fun xs ρ1 => sForL mg bd { E with nx := b E } xs ρ1) : sSeq (sFor mi mg bd) b E ρ := q
theorem lst_nil {ρ : Cs} {k : D → Cs → Prop} (q : k (.list []) ρ) : mLst aNil ρ k := ⟨Nat.zero_le _, q⟩
theorem rng_var {i : Nat} {n : Int} {ρ : Cs} {k : List D → Cs → Prop} (h : ρ[i]? = some (.fro (.int n))) (b1 : -(2 ^ 62) ≤ n) (b2 : n < 2 ^ 62) (q : k (intsD 0 n.toNat) ρ) : mRng1 (aCons (mVar i) aNil) ρ k := by
  unfold mRng1 aCons mVar
  rw [h]
  exact ⟨b1, b2, q⟩
theorem folk_s {c : Cell} {k : D → List Cell → Prop} (p : PL c) (h : ∀ (c' : Cell) (a b d e : Str), PL c' → Pd a → Pd b → Pd d → Pd e → [a, b, d, e].Nodup → k (.list [.str a, .str b, .str d, .str e]) [c']) : F_law_folk [c, .fro (.int 4)] k := by
  refine Fof.mk rfl ?_
  rw [folk_eq]
  refine seq_froO (homes_s p fun c1 h0 h1 p1 l0 l1 n0 n1 => frz_at rfl (seq_setO (lst_nil (seq_for (rng_var rfl (by omega) (by omega) ?_)))))
  refine (folk_step (zs := []) p1 (by decide) (by decide) l0 l1 n0 n1 (by decide) fun c2 x6 a p2 pa => ?_ : folk_body _ [c1, .fro (.int 4), .fro (.list [.str h0, .str h1]), .un, .own (.list (([] : List Str).map .str)), .fro (.int 0), .un, .un])
  refine (folk_step (zs := [a]) p2 (by decide) (by decide) l0 l1 n0 n1 (Nat.le_of_ble_eq_true rfl) fun c3 x6' b p3 pb => ?_ : folk_body _ [c2, .fro (.int 4), .fro (.list [.str h0, .str h1]), .un, .own (.list (([a] : List Str).map .str)), .fro (.int 1), x6, .un])
  refine (folk_step (zs := [a, b]) p3 (by decide) (by decide) l0 l1 n0 n1 (Nat.le_of_ble_eq_true rfl) fun c4 x6'' d p4 pd => ?_ : folk_body _ [c3, .fro (.int 4), .fro (.list [.str h0, .str h1]), .un, .own (.list (([a, b] : List Str).map .str)), .fro (.int 2), x6', .un])
  refine (folk_step (zs := [a, b, d]) p4 (by decide) (by decide) l0 l1 n0 n1 (Nat.le_of_ble_eq_true rfl) fun c5 x6b e p5 pe => ?_ : folk_body _ [c4, .fro (.int 4), .fro (.list [.str h0, .str h1]), .un, .own (.list (([a, b, d] : List Str).map .str)), .fro (.int 3), x6'', .un])
  refine (folk_tail_s p5 l0 l1 n0 n1 pa.pd pb.pd pd.pd pe.pd fun c' x5 x6 x7 z p' hz pz => ?_ : folk_tail _ [c5, .fro (.int 4), .fro (.list [.str h0, .str h1]), .un, .own (.list [.str a, .str b, .str d, .str e]), .fro (.int 3), x6b, .un])
  have ab := pa.ne pb (by decide +kernel)
  have ad := pa.ne pd (by decide +kernel)
  have bd := pb.ne pd (by decide +kernel)
  have az : a ≠ z := hz.elim (fun q => q ▸ pa.ne pe (by decide +kernel)) fun q => pa.tw pb q (by decide +kernel)
  have bz : b ≠ z := hz.elim (fun q => q ▸ pb.ne pe (by decide +kernel)) fun q => q.ne
  have dz : d ≠ z := hz.elim (fun q => q ▸ pd.ne pe (by decide +kernel)) fun q => pd.tw pb q (by decide +kernel)
  exact h c' a b d z p' pa.pd pb.pd pd.pd pz (by simp [ab, ad, az, bd, bz, dz])
end K20

namespace K20
open PySem PySem.Spec PyProof.Rows L2 Br Dl
def addDeed (ps : List (D × D)) (so : D) (z h : Str) (ot to : D) : List (D × D) :=
  putKs ps (.inr [.inr h, .inl ps.length]) (.tuple .mad [.str h, .int ps.length]) (.tuple .mad [.tuple .mad [.str h, .int ps.length], so, .str z, ot, to, .tuple .frz (Dl.cutD (ps.map (·.1)) none (some 1)), .tuple .frz (Dl.cutD (ps.map (·.1)) none (some 1))])
theorem add_s {ps : List (D × D)} {so ot to : D} {z h : Str} {k : D → List Cell → Prop} (p : Pn z h) (t : tups ps) (hl : ps.length < sizeLine) (hk : k (.tuple .mad [.str h, .int ps.length]) [.own (.dict (addDeed ps so z h ot to))]) :
    F_law_add [.own (.dict ps), .fro so, .fro (.str z), .fro ot, .fro to] k := by
  refine Fof.mk rfl ?_
  obtain ⟨⟨a, e⟩, l⟩ := p
  have n1 : ((Str.ofString "@").length == 0) = false := by decide
  have n2 : ((Str.ofString "@").length = 0) = False := by decide
  have s2 : 2 ≤ sizeLine := by decide
  have s7 : 7 ≤ sizeLine := by decide
  simp [b_law_add, ↓sSeq, ↓sSet, ↓mTup, ↓aCons, ↓aNil, ↓mOp, ↓mSplit, ↓mVar, ↓mC, e, l, n1, n2, ↓oIx, atI, ixN, ↓mUn, ↓mOwn, ↓oLen, s2, s7, ↓mSlice, ↓oKeys, ↓oSlice, ↓pNo, ↓pSome, ↓oTupOf, ↓sPut, ↓oPut, kof_nm, fits_t t, made, ↓sRet]
  exact ⟨hl, hk⟩
end K20

namespace K20
open PySem PySem.Spec PyProof.Rows L2 Br Dl
/-! what an expression gives, the cells as they were -/
def Ev (m : ME) (ρ : Cs) (d : D) : Prop := ∀ k : D → Cs → Prop, k d ρ → m ρ k
def EvA (m : MA) (ρ : Cs) (ds : List D) : Prop := ∀ k : List D → Cs → Prop, k ds ρ → m ρ k
theorem ev_c {d : D} {ρ : Cs} : Ev (mC d) ρ d := fun k h => h
theorem ev_var {i : Nat} {d : D} {ρ : Cs} (h : ρ[i]? = some (.fro d)) : Ev (mVar i) ρ d := fun k q => by
  unfold mVar
  rw [h]
  exact q
theorem eva_nil {ρ : Cs} : EvA aNil ρ [] := fun k h => h
theorem eva_cons {m : ME} {ma : MA} {ρ : Cs} {d : D} {ds : List D} (h : Ev m ρ d) (g : EvA ma ρ ds) : EvA (aCons m ma) ρ (d :: ds) := fun k q => h _ (g _ q)
theorem ev_tup {ma : MA} {ρ : Cs} {ds : List D} (h : EvA ma ρ ds) (hl : ds.length ≤ 1000) : Ev (mTup ma) ρ (.tuple .mad ds) := fun k q => h _ ⟨Nat.le_trans hl (by decide), q⟩
theorem ev_tupZ {ma : MA} {ρ : Cs} {ds : List D} (h : EvA ma ρ ds) (hl : ds.length ≤ 1000) : Ev (mTupZ ma) ρ (.tuple .frz ds) := fun k q => h _ ⟨Nat.le_trans hl (by decide), q⟩
theorem ev_lst {ma : MA} {ρ : Cs} {ds : List D} (h : EvA ma ρ ds) (hl : ds.length ≤ 1000) : Ev (mLst ma) ρ (.list ds) := fun k q => h _ ⟨Nat.le_trans hl (by decide), q⟩
theorem ev_op {o : O2} {ma mb : ME} {ρ : Cs} {a b d : D} (h : Ev ma ρ a) (g : Ev mb ρ b) (ho : ∀ k : D → Prop, k d → o a b k) : Ev (mOp o ma mb) ρ d := fun k q => h _ (g _ (ho _ q))
theorem ev_un {o : O1} {ma : ME} {ρ : Cs} {a d : D} (h : Ev ma ρ a) (ho : ∀ k : D → Prop, k d → o a k) : Ev (mUn o ma) ρ d := fun k q => h _ (ho _ q)
theorem ev_rev {ma : ME} {ρ : Cs} {c : Tk} {xs : List D} (h : Ev ma ρ (.tuple c xs)) : Ev (mRev ma) ρ (.tuple .mad xs.reverse) := fun k q => h _ q
theorem ev_call1 {F : Fs} {ma : ME} {ρ : Cs} {a d : D} (h : Ev ma ρ a) (hF : ∀ k : D → List Cell → Prop, k d [] → F [.fro a] k) : Ev (mCall F 0 (rCons ma rNil)) ρ d := fun k q => h _ ⟨List.nodup_nil, rfl, hF _ q⟩
theorem ev_call2 {F : Fs} {ma mb : ME} {ρ : Cs} {a b d : D} (h : Ev ma ρ a) (g : Ev mb ρ b) (hF : ∀ k : D → List Cell → Prop, k d [] → F [.fro a, .fro b] k) : Ev (mCall F 0 (rCons ma (rCons mb rNil))) ρ d := fun k q => h _ (g _ ⟨List.nodup_nil, rfl, hF _ q⟩)
theorem ev_call3 {F : Fs} {ma mb mc : ME} {ρ : Cs} {a b c d : D} (h : Ev ma ρ a) (g : Ev mb ρ b) (e : Ev mc ρ c) (hF : ∀ k : D → List Cell → Prop, k d [] → F [.fro a, .fro b, .fro c] k) : Ev (mCall F 0 (rCons ma (rCons mb (rCons mc rNil)))) ρ d := fun k q => h _ (g _ (e _ ⟨List.nodup_nil, rfl, hF _ q⟩))
theorem set_ev {i : Nat} {m : ME} {b : MS} {E : Dn} {ρ : Cs} {d : D} (h : Ev m ρ d) (q : b E (ρ.set i (.fro d))) : sSeq (sSet i m) b E ρ := h _ q
abbrev ret0 (t : MT) : MS := sIf t (sRet (mC (.bool false))) sNext
/-! tests -/
def EvT (t : MT) (ρ : Cs) (b : Bool) : Prop := ∀ k : Bool → Cs → Prop, k b ρ → t ρ k
theorem evt_test {m : ME} {ρ : Cs} {b : Bool} (h : Ev m ρ (.bool b)) : EvT (mTest m) ρ b := fun k q => h _ q
theorem evt_not {t : MT} {ρ : Cs} {b : Bool} (h : EvT t ρ b) : EvT (mNot t) ρ (!b) := fun k q => h _ q
theorem evt_or {t u : MT} {ρ : Cs} (h : EvT t ρ false) (g : EvT u ρ false) : EvT (mOr t u) ρ false := fun k q => h _ (g _ q)
theorem evt_and0 {t u : MT} {ρ : Cs} (h : EvT t ρ false) : EvT (mAnd t u) ρ false := fun k q => h _ q
theorem evt_and1 {t u : MT} {ρ : Cs} {b : Bool} (h : EvT t ρ true) (g : EvT u ρ b) : EvT (mAnd t u) ρ b := fun k q => h _ (g _ q)
theorem ret0_s {t : MT} {E : Dn} {ρ : Cs} (h : EvT t ρ false) (q : E.nx ρ) : ret0 t E ρ := h _ q
theorem seq0_s {t : MT} {b : MS} {E : Dn} {ρ : Cs} (h : EvT t ρ false) (q : b E ρ) : sSeq (ret0 t) b E ρ := h _ q
theorem tup_st {ma : MA} {ρ : Cs} {k : D → Cs → Prop} (q : ma ρ fun ds ρ1 => ds.length ≤ sizeLine ∧ k (.tuple .mad ds) ρ1) : mTup ma ρ k := q
theorem tupZ_st {ma : MA} {ρ : Cs} {k : D → Cs → Prop} (q : ma ρ fun ds ρ1 => ds.length ≤ sizeLine ∧ k (.tuple .frz ds) ρ1) : mTupZ ma ρ k := q
theorem lst_st {ma : MA} {ρ : Cs} {k : D → Cs → Prop} (q : ma ρ fun ds ρ1 => ds.length ≤ sizeLine ∧ k (.list ds) ρ1) : mLst ma ρ k := q
theorem a_st {m : ME} {ma : MA} {ρ : Cs} {k : List D → Cs → Prop} (q : m ρ fun d ρ1 => ma ρ1 fun ds ρ2 => k (d :: ds) ρ2) : aCons m ma ρ k := q
theorem op_st {o : O2} {ma mb : ME} {ρ : Cs} {k : D → Cs → Prop} (q : ma ρ fun da ρ1 => mb ρ1 fun db ρ2 => o da db fun d => k d ρ2) : mOp o ma mb ρ k := q
theorem seq_set' {i : Nat} {m : ME} {b : MS} {E : Dn} {ρ : Cs} (q : m ρ fun d ρ1 => b E (ρ1.set i (.fro d))) : sSeq (sSet i m) b E ρ := q
theorem pick {xs : List D} {u : Int} {K : D → Prop} (u0 : 0 ≤ u) (u1 : u < xs.length) (h : ∀ x ∈ xs, K x) : oIx (.list xs) (.int u) K := by
  have hl : u.toNat < xs.length := by omega
  have e : atI xs u = some (xs[u.toNat]'hl) := by
    have := atI_nat (xs := xs) (j := u.toNat) (List.getElem?_eq_getElem hl)
    rwa [Int.toNat_of_nonneg u0] at this
  show match atI xs u with | some d => K d | none => False
  rw [e]
  exact h _ (List.getElem_mem hl)
theorem ret_st {m : ME} {E : Dn} {ρ : Cs} (q : m ρ fun d ρ1 => E.rt d ρ1) : sRet m E ρ := q
theorem if1_st {t : MT} {a b : MS} {E : Dn} {ρ : Cs} (h : EvT t ρ true) (q : a { E with nx := b E } ρ) : sSeq (sIf t a sNext) b E ρ := h _ q
theorem if0_st {t : MT} {a b : MS} {E : Dn} {ρ : Cs} (h : EvT t ρ false) (q : b E ρ) : sSeq (sIf t a sNext) b E ρ := h _ q
end K20

namespace K20
open PySem PySem.Spec PyProof.Rows L2 Br Dl
/-- a text that is no longer than people are -/
def Zs (z : Str) : Prop := okSt z ∧ z.length ≤ 410
def Pr (P : Str → Prop) (d : D) : Prop := ∃ c z i, d = .tuple c [.str z, .int i] ∧ (Zs z ∧ P z) ∧ 0 ≤ i ∧ i ≤ 100
theorem Pr.wl {P : Str → Prop} {d : D} (h : Pr P d) : Wl 1 412 d := by
  obtain ⟨c, z, i, rfl, ⟨⟨o, l⟩, _⟩, i0, i1⟩ := h
  exact (wl_tup (m := 0) (wls_cons (wl_str o l) (wls_cons (wl_int (n := 0) (by omega)) wls_nil))).mono (Nat.le_refl _) (by omega)
theorem nums_of {P : Str → Prop} : ∀ {us : List D}, (∀ u ∈ us, Pr P u) → numsD us
  | [], _ => ⟨[], rfl, fun _ z => nomatch z⟩
  | u :: us, h => by
    obtain ⟨c, z, i, rfl, _, i0, _⟩ := h u List.mem_cons_self
    obtain ⟨p, e, hp⟩ := nums_of fun v hv => h v (List.mem_cons_of_mem _ hv)
    refine ⟨(.inr z, .int i) :: p, ?_, fun q hq => ?_⟩
    · show (match Dl.keyOf (.str z), prs us with | some q, some rs => some ((q, D.int i) :: rs) | _, _ => none) = _
      rw [e]
      rfl
    · rcases List.mem_cons.mp hq with rfl | hq
      · exact ⟨i, rfl, i0⟩
      · exact hp q hq
theorem rows_L {P : Str → Prop} {i : Nat} {mt : MT} {me : ME} {K : List D → Cs → Prop} (S : Cell → Cell → Cs) (s1 : ∀ c x y, (S c x).set i y = S c y)
    (ht : ∀ c x k, PL c → (∀ b c', PL c' → k b (S c' x)) → mt (S c x) k) (he : ∀ c z (k : D → Cs → Prop), Zs z ∧ P z → PL c → (∀ d c', PL c' → Pr P d → rowK d = .str z → k d (S c' (.fro (.str z)))) → me (S c (.fro (.str z))) k) :
    ∀ (zs : List Str) (acc : List D) (c : Cell), (∀ z ∈ zs, Zs z ∧ P z) → PL c → (∀ d ∈ acc, Pr P d) → (∀ acc' c', PL c' → (∀ d ∈ acc', Pr P d) → acc'.length ≤ acc.length + zs.length → (acc'.map rowK).Sublist (acc.map rowK ++ zs.map .str) → K acc' (S c' .un)) → mLcL (mgName i) mt me [i] K (zs.map .str) acc (S c .un)
  | [], acc, c, _, p, ha, h => h acc c p ha (by omega) (by rw [List.map_nil, List.append_nil]; exact List.Sublist.refl _)
  | z :: zs, acc, c, hz, p, ha, h => by
    have hz' : ∀ y ∈ zs, Zs y ∧ P y := fun y hy => hz y (List.mem_cons_of_mem _ hy)
    show mt ((S c .un).set i (.fro (.str z))) fun b ρ2 => if b = true then me ρ2 fun d ρ3 => mLcL (mgName i) mt me [i] K (zs.map .str) (acc ++ [d]) (wipeC ρ3 [i]) else mLcL (mgName i) mt me [i] K (zs.map .str) acc (wipeC ρ2 [i])
    rw [s1]
    refine ht c _ _ p fun b c1 p1 => ?_
    cases b
    · rw [if_neg (by decide)]
      show mLcL _ _ _ _ K _ acc ((S c1 _).set i .un)
      rw [s1]
      exact rows_L S s1 ht he zs acc c1 hz' p1 ha fun a' c' p' q' l' s' => h a' c' p' q' (by rw [List.length_cons]; omega) (s'.trans (List.Sublist.append (List.Sublist.refl _) (List.sublist_cons_self _ _)))
    · rw [if_pos rfl]
      refine he c1 z _ (hz z List.mem_cons_self) p1 fun d c2 p2 pd kd => ?_
      show mLcL _ _ _ _ K _ (acc ++ [d]) ((S c2 _).set i .un)
      rw [s1]
      refine rows_L S s1 ht he zs (acc ++ [d]) c2 hz' p2 (fun y hy => ?_) fun a' c' p' q' l' s' => h a' c' p' q' (by rw [List.length_append, List.length_singleton] at l'; rw [List.length_cons]; omega) (by rw [List.map_append, List.append_assoc, List.map_singleton, kd] at s'; exact s')
      rcases List.mem_append.mp hy with q | q
      · exact ha y q
      · rw [List.mem_singleton.mp q]; exact pd
theorem test_gt {j : Nat} {n : Int} {k : Bool → Cs → Prop} {c : Cell} {ρ : Cs} (hj : ρ[j]? = some c) (p : PL c) (hn : 0 < n) (hn2 : n < 1073741824) (h : ∀ b c', PL c' → k b (ρ.set j c')) : mTest (mOp oGt (mCall F_law_take 1 (rOwn j (rCons (mC (.int n)) rNil))) (mC (.int 0))) ρ k :=
  call_take (k := fun d ρ1 => oGt d (.int 0) fun r => match r with | .bool b => k b ρ1 | _ => False) hj p (fun _ z => z) hn hn2 fun t c' _ _ p' => h _ c' p'
theorem test_eq {j : Nat} {n : Int} {k : Bool → Cs → Prop} {c : Cell} {ρ : Cs} (hj : ρ[j]? = some c) (p : PL c) (hn : 0 < n) (hn2 : n < 1073741824) (h : ∀ b c', PL c' → k b (ρ.set j c')) : mTest (mOp oEq (mCall F_law_take 1 (rOwn j (rCons (mC (.int n)) rNil))) (mC (.int 0))) ρ k :=
  call_take (k := fun d ρ1 => oEq d (.int 0) fun r => match r with | .bool b => k b ρ1 | _ => False) hj p (fun _ z => z) hn hn2 fun t c' _ _ p' => h _ c' p'
theorem six_at {a : Int} {t : Int} {k : D → Prop} (a0 : 0 ≤ a) (a1 : a ≤ 100) (t0 : 0 ≤ t) (t1 : t < 6) (h : ∀ i : Int, 0 ≤ i → i ≤ 100 → k (.int i)) : oIx (.list [.int 0, .int a, .int 50, .int 50, .int 99, .int 100]) (.int t) k := by
  have : t = 0 ∨ t = 1 ∨ t = 2 ∨ t = 3 ∨ t = 4 ∨ t = 5 := by omega
  rcases this with rfl | rfl | rfl | rfl | rfl | rfl <;> exact h _ (by omega) (by omega)
def rr_some : ME := (mLc (mItems dLst (mVar 1)) (mgName 4) (mTest (mOp oGt (mCall F_law_take 1 (rOwn 0 (rCons (mC (.int 4)) rNil))) (mC (.int 0)))) (mTup (aCons (mVar 4) (aCons (mOp oIx (mVar 2) (mCall F_law_take 1 (rOwn 0 (rCons (mC (.int 6)) rNil)))) aNil))) [4])
def rr_words : ME := (mLc (mItems dLst (mVar 5)) (mgName 6) (mTest (mOp oEq (mCall F_law_take 1 (rOwn 0 (rCons (mC (.int 3)) rNil))) (mC (.int 0)))) (mTupZ (aCons (mVar 6) (aCons (mOp oIx (mVar 2) (mCall F_law_take 1 (rOwn 0 (rCons (mC (.int 6)) rNil)))) aNil))) [6])
def rr_ranks : ME := (mLst (aCons (mC (.int 0)) (aCons (mOp oAdd (mC (.int 1)) (mCall F_law_take 1 (rOwn 0 (rCons (mC (.int 98)) rNil)))) (aCons (mC (.int 50)) (aCons (mC (.int 50)) (aCons (mC (.int 99)) (aCons (mC (.int 100)) aNil)))))))
def rr_list : ME := (mLst (aCons (mC (.str "bar")) (aCons (mC (.str "call")) (aCons (mC (.str "door")) (aCons (mC (.str "move")) (aCons (mC (.str "out")) (aCons (mC (.str "ranks")) (aCons (mC (.str "say")) (aCons (mC (.str "strike")) aNil)))))))))
theorem rr_eq : b_law_rank_rows = (sSeq (sSet 2 rr_ranks) (sSeq (sSet 3 (mUn oSorted_pairs rr_some)) (sSeq (sSet 5 rr_list) (sRet (mTup (aCons (mUn oTupOf (mVar 3)) (aCons (mUn oTupOf rr_words) aNil))))))) := rfl
theorem ranks_s {c x2 x3 x4 x5 x6 : Cell} {n : Cell} {k : D → Cs → Prop} (p : PL c) (h : ∀ (a : Int) c', 0 ≤ a → a ≤ 100 → PL c' → k (.list [.int 0, .int a, .int 50, .int 50, .int 99, .int 100]) [c', n, x2, x3, x4, x5, x6]) : rr_ranks [c, n, x2, x3, x4, x5, x6] k := by
  have s : 100 ≤ sizeLine := by decide
  have e : rr_ranks [c, n, x2, x3, x4, x5, x6] k = mOp oAdd (mC (.int 1)) (mCall F_law_take 1 (rOwn 0 (rCons (mC (.int 98)) rNil))) [c, n, x2, x3, x4, x5, x6] fun d ρ => 6 ≤ sizeLine ∧ k (.list [.int 0, d, .int 50, .int 50, .int 99, .int 100]) ρ := rfl
  rw [e]
  exact one_take rfl p (by decide) (by decide) fun t c' p' t0 t1 => ⟨by omega, h t c' (by omega) (by omega) p'⟩
theorem rsome_s {c x3 x5 x6 : Cell} {a : Int} {zs : List Str} {k : D → Cs → Prop} (p : PL c) (hl : zs.length ≤ sizeLine) (a0 : 0 ≤ a) (a1 : a ≤ 100) {P : Str → Prop} (hz : ∀ z ∈ zs, Zs z ∧ P z) (h : ∀ (us : List D) c', PL c' → (∀ u ∈ us, Pr P u) → us.length ≤ zs.length → (us.map rowK).Sublist (zs.map .str) → k (.list us) [c', .fro (.list (zs.map .str)), .fro (.list [.int 0, .int a, .int 50, .int 50, .int 99, .int 100]), x3, .un, x5, x6]) :
    rr_some [c, .fro (.list (zs.map .str)), .fro (.list [.int 0, .int a, .int 50, .int 50, .int 99, .int 100]), x3, .un, x5, x6] k := by
  have s2 : 2 ≤ sizeLine := by decide
  refine (show (zs.map D.str).length ≤ sizeLine ∧ mLcL (mgName 4) _ _ [4] (fun ds ρ2 => k (.list ds) ρ2) (zs.map .str) [] [c, .fro (.list (zs.map .str)), .fro (.list [.int 0, .int a, .int 50, .int 50, .int 99, .int 100]), x3, .un, x5, x6] from ⟨by rw [List.length_map]; exact hl, ?_⟩)
  refine rows_L (fun c x => [c, .fro (.list (zs.map .str)), .fro (.list [.int 0, .int a, .int 50, .int 50, .int 99, .int 100]), x3, x, x5, x6]) (fun _ _ _ => rfl) (fun c x k p h => ?_) (fun c z k hzz p h => ?_) zs [] c hz p (fun _ z => nomatch z) fun us c' p' hu lu su => h us c' p' hu (by rw [List.length_nil] at lu; omega) su
  · exact test_gt (ρ := [c, .fro (.list (zs.map .str)), .fro (.list [.int 0, .int a, .int 50, .int 50, .int 99, .int 100]), x3, x, x5, x6]) (j := 0) (n := 4) rfl p (by decide) (by decide) fun b c' p' => h b c' p'
  · refine (op_var (o := oIx) (i := 2) (ρ := [c, .fro (.list (zs.map .str)), .fro (.list [.int 0, .int a, .int 50, .int 50, .int 99, .int 100]), x3, .fro (.str z), x5, x6]) (k := fun d ρ => 2 ≤ sizeLine ∧ k (.tuple .mad [.str z, d]) ρ) rfl (call_take (j := 0) (n := 6) (m := mC (.int 6)) rfl p (fun _ z => z) (by decide) (by decide) fun t c' t0 t1 p' => six_at a0 a1 t0 t1 fun i i0 i1 => ⟨s2, h _ c' p' ⟨_, _, _, rfl, hzz, i0, i1⟩ rfl⟩))
theorem rwords_s {c n1 x3 x4 : Cell} {a : Int} {zs : List Str} {k : D → Cs → Prop} (p : PL c) (hl : zs.length ≤ sizeLine) (a0 : 0 ≤ a) (a1 : a ≤ 100) {P : Str → Prop} (hz : ∀ z ∈ zs, Zs z ∧ P z) (h : ∀ (us : List D) c', PL c' → (∀ u ∈ us, Pr P u) → us.length ≤ zs.length → (us.map rowK).Sublist (zs.map .str) → k (.list us) [c', n1, .fro (.list [.int 0, .int a, .int 50, .int 50, .int 99, .int 100]), x3, x4, .fro (.list (zs.map .str)), .un]) :
    rr_words [c, n1, .fro (.list [.int 0, .int a, .int 50, .int 50, .int 99, .int 100]), x3, x4, .fro (.list (zs.map .str)), .un] k := by
  have s2 : 2 ≤ sizeLine := by decide
  refine (show (zs.map D.str).length ≤ sizeLine ∧ mLcL (mgName 6) _ _ [6] (fun ds ρ2 => k (.list ds) ρ2) (zs.map .str) [] [c, n1, .fro (.list [.int 0, .int a, .int 50, .int 50, .int 99, .int 100]), x3, x4, .fro (.list (zs.map .str)), .un] from ⟨by rw [List.length_map]; exact hl, ?_⟩)
  refine rows_L (fun c x => [c, n1, .fro (.list [.int 0, .int a, .int 50, .int 50, .int 99, .int 100]), x3, x4, .fro (.list (zs.map .str)), x]) (fun _ _ _ => rfl) (fun c x k p h => ?_) (fun c z k hzz p h => ?_) zs [] c hz p (fun _ z => nomatch z) fun us c' p' hu lu su => h us c' p' hu (by rw [List.length_nil] at lu; omega) su
  · exact test_eq (ρ := [c, n1, .fro (.list [.int 0, .int a, .int 50, .int 50, .int 99, .int 100]), x3, x4, .fro (.list (zs.map .str)), x]) (j := 0) (n := 3) rfl p (by decide) (by decide) fun b c' p' => h b c' p'
  · refine (op_var (o := oIx) (i := 2) (ρ := [c, n1, .fro (.list [.int 0, .int a, .int 50, .int 50, .int 99, .int 100]), x3, x4, .fro (.list (zs.map .str)), .fro (.str z)]) (k := fun d ρ => 2 ≤ sizeLine ∧ k (.tuple .frz [.str z, d]) ρ) rfl (call_take (j := 0) (n := 6) (m := mC (.int 6)) rfl p (fun _ z => z) (by decide) (by decide) fun t c' t0 t1 p' => six_at a0 a1 t0 t1 fun i i0 i1 => ⟨s2, h _ c' p' ⟨_, _, _, rfl, hzz, i0, i1⟩ rfl⟩))
theorem nd_str {zs : List Str} (h : zs.Nodup) : (zs.map D.str).Nodup := List.Pairwise.map _ (fun _ _ n e => n (D.str.inj e)) h
theorem words_nd : ((["bar", "call", "door", "move", "out", "ranks", "say", "strike"] : List Str).map D.str).Nodup := nd_str (by decide +kernel)
theorem numsU_of {P : Str → Prop} {ws : List D} (h : ∀ u ∈ ws, Pr P u) (s : (ws.map rowK).Sublist ((["bar", "call", "door", "move", "out", "ranks", "say", "strike"] : List Str).map D.str)) : numsU ws := ⟨nums_of h, fun u hu => by obtain ⟨c, z, i, e, _⟩ := h u hu; exact ⟨c, z, i, e⟩, s.nodup words_nd, fun u hu z e => by
  have := s.subset (List.mem_map.mpr ⟨u, hu, e⟩)
  obtain ⟨y, hy, ey⟩ := List.mem_map.mp this
  rw [← D.str.inj ey]
  exact hy⟩
theorem words_ok : ∀ z ∈ (["bar", "call", "door", "move", "out", "ranks", "say", "strike"] : List Str), Zs z ∧ True := by
  intro z hz
  simp at hz
  rcases hz with rfl | rfl | rfl | rfl | rfl | rfl | rfl | rfl <;> exact ⟨⟨by unfold okSt; decide +kernel, by decide +kernel⟩, trivial⟩
theorem wl_body {P Q : Str → Prop} {us ws : List D} (hu : ∀ u ∈ us, Pr P u) (hw : ∀ u ∈ ws, Pr Q u) (lu : us.length ≤ 4) (lw : ws.length ≤ 8) : Wl 3 5000 (.tuple .mad [.tuple .frz us, .tuple .frz ws]) := by
  have a := wls_all fun u h => (hu u h).wl
  have b := wls_all fun u h => (hw u h).wl
  refine (wl_tup (wls_cons (wl_tup a) (wls_cons (wl_tup b) wls_nil))).mono (Nat.le_refl _) ?_
  have : us.length * (412 + 1) ≤ 4 * 413 := Nat.mul_le_mul lu (Nat.le_refl _)
  have : ws.length * (412 + 1) ≤ 8 * 413 := Nat.mul_le_mul lw (Nat.le_refl _)
  omega
theorem rows_s {c : Cell} {zs : List Str} {k : D → List Cell → Prop} (p : PL c) (h4 : zs.length ≤ 4) (hz : ∀ z ∈ zs, Zs z) (h : ∀ (us ws : List D) c', PL c' → (∀ u ∈ us, Pr (· ∈ zs) u) → (zs.Nodup → (us.map rowK).Nodup) → numsU ws → Wl 3 5000 (.tuple .mad [.tuple .frz us, .tuple .frz ws]) → k (.tuple .mad [.tuple .frz us, .tuple .frz ws]) [c']) : F_law_rank_rows [c, .fro (.list (zs.map .str))] k := by
  have s2 : 2 ≤ sizeLine := by decide
  have s8 : 8 ≤ sizeLine := by decide
  have hl : zs.length ≤ sizeLine := by omega
  refine Fof.mk rfl ?_
  rw [rr_eq]
  refine seq_set (ranks_s p fun a c1 a0 a1 p1 => seq_set ?_)
  refine rsome_s p1 hl a0 a1 (P := (· ∈ zs)) (fun z h => ⟨hz z h, h⟩) fun us c2 p2 hu lu su => ?_
  refine ⟨List.all_eq_true.mpr fun u hm => by obtain ⟨_, _, _, rfl, _⟩ := hu u hm; rfl, fun us' pm _ => ?_⟩
  refine seq_set (show 8 ≤ sizeLine ∧ _ from ⟨s8, ?_⟩)
  have hu' : ∀ u ∈ us', Pr (· ∈ zs) u := fun u hm => hu u (pm.mem_iff.mp hm)
  have hw := rwords_s (zs := ["bar", "call", "door", "move", "out", "ranks", "say", "strike"]) (n1 := .fro (.list (zs.map .str))) (x3 := .fro (.list us')) (x4 := .un) (a := a) (k := fun d ρ1 => oTupOf d fun d2 => 2 ≤ sizeLine ∧ k (.tuple .mad [.tuple .frz us', d2]) (ρ1.take 1)) p2 s8 a0 a1 (P := fun _ => True) words_ok fun ws c3 p3 hw lw sw => ⟨s2, h us' ws c3 p3 hu' (fun nd => (pm.map rowK).nodup_iff.mpr (su.nodup (nd_str nd))) (numsU_of hw sw) (wl_body hu' hw (by rw [pm.length_eq]; omega) lw)⟩
  exact hw
end K20

namespace K20
open PySem PySem.Spec PyProof.Rows L2 Br Dl
/-- what is looked up behind a store -/
theorem look_drop {k q : Key ⊕ List Key} : ∀ {ps : List (D × D)}, look kOf q (dropKs ps k) = if q = k then none else look kOf q ps
  | [] => by split <;> rfl
  | p :: ps => by
    have ih := look_drop (k := k) (q := q) (ps := ps)
    unfold dropKs at ih ⊢
    rw [List.filter_cons]
    show _ = if q = k then none else (if kOf p.1 = some q then some p.2 else look kOf q ps)
    by_cases h : kOf p.1 = some k
    · rw [if_neg (by simp [h]), ih]
      by_cases e : q = k
      · rw [if_pos e, if_pos e]
      · rw [if_neg e, if_neg e, if_neg fun z => e (by rw [h] at z; exact (Option.some.inj z).symm)]
    · rw [if_pos (by simp [h])]
      show (if kOf p.1 = some q then some p.2 else look kOf q _) = _
      rw [ih]
      by_cases e : q = k
      · subst e
        rw [if_pos rfl, if_neg h, if_pos rfl]
      · rw [if_neg e, if_neg e]
theorem tups_put {ps : List (D × D)} {k : Key ⊕ List Key} {c : Tk} {xs : List D} {v : D} (h : tups ps) : tups (putKs ps k (.tuple c xs) v) := by
  unfold putKs
  split
  · intro p hp
    obtain ⟨q, hq, e⟩ := List.mem_map.mp hp
    subst e
    split <;> exact h q hq
  · intro p hp
    rcases List.mem_append.mp hp with z | z
    · exact h p z
    · rw [List.mem_singleton.mp z]; rfl
theorem okSt_low {z : Str} (h : low z) : okSt z := fun c hc => by
  have := h c hc
  have e : (16 : Nat) ^ 8 = 4294967296 := by decide
  omega
theorem okSt_app {x y : Str} (a : okSt x) (b : okSt y) : okSt (x ++ y) := fun c hc => by
  have e : (x ++ y).cps.toList = x.cps.toList ++ y.cps.toList := Array.toList_append
  rw [e] at hc
  exact (List.mem_append.mp hc).elim (a c) (b c)
theorem Pd.zs {z : Str} (p : Pd z) : Zs z := by
  obtain ⟨w, h, a, b, l1, l2, rfl⟩ := p
  refine ⟨okSt_app (okSt_app (okSt_low a) (by unfold okSt; decide +kernel)) (okSt_low b), ?_⟩
  rw [len_app, len_app]
  have : (Str.ofString "@").length = 1 := by decide
  omega
theorem Pd.pn2 {z : Str} (p : Pd z) : ∃ h, Pn z h ∧ okSt h ∧ h.length ≤ 200 := by
  obtain ⟨w, h, a, b, l1, l2, rfl⟩ := p
  refine ⟨h, ⟨⟨w, Pd.split a b⟩, ?_⟩, okSt_low b, by omega⟩
  rw [len_app, len_app]
  have : (Str.ofString "@").length = 1 := by decide
  have s : 1000 ≤ sizeLine := by decide
  omega

/-- who are named in a content of ranks -/
def Us (fs : List Str) (to : D) : Prop := ∀ c us ws, to = .tuple c [.tuple .frz us, .tuple .frz ws] → ∀ u ∈ us, ∃ c z i, u = .tuple c [.str z, .int i] ∧ z ∈ fs
structure Sz (fs : List Str) (so : D) (z h : Str) (ot to : D) : Prop where
  wh : z ∈ fs
  us : Us fs to
  so : Wl 1 20 so
  z : Zs z
  h : okSt h ∧ h.length ≤ 200
  ot : Wl 1 410 ot
  to : Wl 3 5000 to
theorem wl_name {h : Str} {i : Nat} {c : Tk} (k : okSt h ∧ h.length ≤ 200) (hi : i < 1000000) : Wl 1 202 (.tuple c [.str h, .int i]) :=
  (wl_tup (m := 0) (wls_cons (wl_str k.1 k.2) (wls_cons (wl_int (n := 0) (by omega)) wls_nil))).mono (Nat.le_refl _) (by omega)
theorem cut_mem {ds : List D} {lo hi : Option Int} {d : D} (h : d ∈ Dl.cutD ds lo hi) : d ∈ ds := List.mem_of_mem_drop (List.mem_of_mem_take h)
theorem cut_one {ds : List D} : (Dl.cutD ds none (some 1)).length ≤ 1 := by
  unfold Dl.cutD
  rw [List.length_take]
  have : HT.sIx ds.length ds.length (some 1) ≤ 1 := by
    unfold HT.sIx
    simp
    omega
  omega
theorem wl_deed {fs : List Str} {so ot to : D} {z h : Str} {i : Nat} {ds : List D} (sz : Sz fs so z h ot to) (hi : i < 1000000) (hd : ∀ d ∈ ds, Wl 1 300 d) : Wl 5 8000 (.tuple .mad [.tuple .mad [.str h, .int i], so, .str z, ot, to, .tuple .frz (Dl.cutD ds none (some 1)), .tuple .frz (Dl.cutD ds none (some 1))]) := by
  have a := wls_all fun d h => hd d (cut_mem (lo := none) (hi := some 1) h)
  have l : (Dl.cutD ds none (some 1)).length * (300 + 1) ≤ 1 * 301 := Nat.mul_le_mul cut_one (Nat.le_refl _)
  have b : Wl 3 301 (.tuple .frz (Dl.cutD ds none (some 1))) := (wl_tup a).mono (by omega) (by omega)
  have n : Wl 3 202 (.tuple .mad [.str h, .int i]) := (wl_name sz.h hi).mono (by omega) (Nat.le_refl _)
  have z' : Wl 3 410 (.str z) := wl_str sz.z.1 sz.z.2
  exact (wl_tup (wls_cons n (wls_cons (sz.so.mono (by omega) (Nat.le_refl _)) (wls_cons z' (wls_cons (sz.ot.mono (by omega) (Nat.le_refl _)) (wls_cons sz.to (wls_cons b (wls_cons b wls_nil)))))))).mono (by omega) (by omega)
/-- a hall as it grows: names are numbered -/
structure HI (fs : List Str) (ps st : List (D × D)) : Prop extends GH ps st where
  fk : ∀ p ∈ ps, ∃ e t so wh ot to fi fi', p.2 = .tuple e [t, so, .str wh, ot, to, fi, fi'] ∧ wh ∈ fs ∧ Us fs to
  nm : ∀ p ∈ ps, ∃ h, ∃ i : Nat, p.1 = .tuple .mad [.str h, .int i] ∧ i < ps.length
  sm : ∀ p ∈ ps, Wl 1 300 p.1 ∧ Wl 5 8000 p.2
  ss : ∀ p ∈ st, (∃ s ab, p.1 = .tuple .mad [.str s, .str ab]) ∧ Wl 1 500 p.1 ∧ Wl 1 300 p.2
  /-- the first one began -/
  bw : ∀ nm d, lkS st "begin" "" = some nm → dLook ps nm = some d → ∃ e t so wh ot to fi fi', d = .tuple e [t, so, .str wh, ot, to, fi, fi'] ∧ fs.head? = some wh
  nv : ∀ p ∈ st, noD p.2 = true
  /-- a deed stands for its own key -/
  ky : ∀ s ab nm d, lkS st s ab = some nm → dLook ps nm = some d → ∃ e t wh to fi fi', d = .tuple e [t, .str s, .str wh, .str ab, to, fi, fi']
  /-- the texts of names are texts -/
  hs : ∀ p ∈ ps, ∀ c h i, p.1 = .tuple c [.str h, .int i] → okSt h
theorem HI.nil {fs : List Str} : HI fs [] [] := ⟨⟨(fun _ z => nomatch z), (fun _ z => nomatch z), (fun _ _ _ z => nomatch z)⟩, (fun _ z => nomatch z), (fun _ z => nomatch z), (fun _ z => nomatch z), (fun _ z => nomatch z), (fun _ _ z => nomatch z), (fun _ z => nomatch z), (fun _ _ _ _ z => nomatch z), (fun _ z => nomatch z)⟩
theorem mem_putKs {ps : List (D × D)} {k : Key ⊕ List Key} {key v : D} {p : D × D} (h : p ∈ putKs ps k key v) : p = (key, v) ∨ (∃ q ∈ ps, p.1 = q.1 ∧ (p.2 = v ∨ p.2 = q.2)) := by
  unfold putKs at h
  split at h
  · obtain ⟨q, hq, e⟩ := List.mem_map.mp h
    refine .inr ⟨q, hq, ?_⟩
    split at e
    · subst e; exact ⟨rfl, .inl rfl⟩
    · subst e; exact ⟨rfl, .inr rfl⟩
  · rcases List.mem_append.mp h with h | h
    · exact .inr ⟨p, h, rfl, .inr rfl⟩
    · exact .inl (List.mem_singleton.mp h)
section
variable {fs : List Str} {ps st : List (D × D)}
theorem HI.fresh (g : HI fs ps st) {h : Str} : look kOf (.inr [.inr h, .inl (ps.length : Int)]) ps = none := look_none fun p hp z => by
  obtain ⟨h', i, e, hi⟩ := g.nm p hp
  rw [e] at z
  have := Option.some.inj z
  injection this with this
  injection this with _ this
  injection this with this _
  injection this with this
  omega
theorem HI.add_eq (g : HI fs ps st) {so ot to : D} {z h : Str} : addDeed ps so z h ot to = ps ++ [(.tuple .mad [.str h, .int ps.length], .tuple .mad [.tuple .mad [.str h, .int ps.length], so, .str z, ot, to, .tuple .frz (Dl.cutD (ps.map (·.1)) none (some 1)), .tuple .frz (Dl.cutD (ps.map (·.1)) none (some 1))])] := by
  unfold addDeed putKs
  rw [if_neg fun a => ?_]
  obtain ⟨d, hd⟩ := look_any a
  rw [g.fresh] at hd
  cases hd
/-- a deed added, the state as it was -/
theorem HI.add (g : HI fs ps st) {so ot to : D} {z h : Str} (sz : Sz fs so z h ot to) (hl : ps.length < 1000000) : HI fs (addDeed ps so z h ot to) st := by
  have th : tups (addDeed ps so z h ot to) := tups_put g.th
  refine ⟨⟨th, g.ts, fun s ab nm e => ?_⟩, fun p hp => ?_, fun p hp => ?_, fun p hp => ?_, g.ss, fun nm d e e2 => ?_, g.nv, fun s ab nm d e e2 => ?_, fun p hp c h' i e => by
    rw [g.add_eq] at hp
    rcases List.mem_append.mp hp with q | q
    · exact g.hs p q c h' i e
    · rw [List.mem_singleton.mp q] at e
      injection e with _ e
      injection e with e _
      injection e with e
      rw [← e]; exact sz.h.1⟩
  · obtain ⟨c, h', i, e', t, so', wh, ot', to', fi, fi', rfl, e2, hb⟩ := g.at_ s ab nm e
    refine ⟨c, h', i, e', t, so', wh, ot', to', fi, fi', rfl, ?_, hb⟩
    rw [g.add_eq]
    show look kOf _ (ps ++ _) = _
    rw [look_app]
    have e2' : look kOf (.inr [.inr h', .inl i]) ps = _ := e2
    rw [e2']; rfl
  · rw [g.add_eq] at hp
    rcases List.mem_append.mp hp with q | q
    · exact g.fk p q
    · rw [List.mem_singleton.mp q]
      exact ⟨_, _, _, _, _, _, _, _, rfl, sz.wh, sz.us⟩
  · rw [g.add_eq] at hp ⊢
    rw [List.length_append, List.length_singleton]
    rcases List.mem_append.mp hp with q | q
    · obtain ⟨h', i, e, hi⟩ := g.nm p q
      exact ⟨h', i, e, by omega⟩
    · rw [List.mem_singleton.mp q]
      exact ⟨h, ps.length, rfl, by omega⟩
  · rw [g.add_eq] at hp
    rcases List.mem_append.mp hp with q | q
    · exact g.sm p q
    · rw [List.mem_singleton.mp q]
      refine ⟨(wl_name sz.h hl).mono (Nat.le_refl _) (by omega), wl_deed sz hl fun d hd => ?_⟩
      obtain ⟨p', hp', rfl⟩ := List.mem_map.mp hd
      exact (g.sm p' hp').1
  · obtain ⟨c, h', i, e', t, so', wh, ot', to', fi, fi', rfl, e3, hb⟩ := g.at_ _ _ nm e
    have e4 : look kOf (.inr [.inr h', .inl i]) (addDeed ps so z h ot to) = some d := e2
    rw [g.add_eq, look_app, show look kOf (.inr [.inr h', .inl i]) ps = _ from e3] at e4
    have e5 : some (D.tuple e' [t, so', .str wh, ot', to', fi, fi']) = some d := e4
    cases e5
    exact g.bw _ _ e e3
  · obtain ⟨c, h', i, e', t, so', wh, ot', to', fi, fi', rfl, e3, hb⟩ := g.at_ _ _ nm e
    have e4 : look kOf (.inr [.inr h', .inl i]) (addDeed ps so z h ot to) = some d := e2
    rw [g.add_eq, look_app, show look kOf (.inr [.inr h', .inl i]) ps = _ from e3] at e4
    have e5 : some (D.tuple e' [t, so', .str wh, ot', to', fi, fi']) = some d := e4
    cases e5
    exact g.ky _ _ _ _ e e3
theorem HI.new (g : HI fs ps st) {so ot to : D} {z h : Str} : look kOf (.inr [.inr h, .inl (ps.length : Int)]) (addDeed ps so z h ot to) = some (.tuple .mad [.tuple .mad [.str h, .int ps.length], so, .str z, ot, to, .tuple .frz (Dl.cutD (ps.map (·.1)) none (some 1)), .tuple .frz (Dl.cutD (ps.map (·.1)) none (some 1))]) := by
  unfold addDeed
  rw [look_put rfl, if_pos rfl]
/-- a deed added and put into the state -/
theorem HI.put (g : HI fs ps st) {so ot to : D} {z h s ab : Str} (sz : Sz fs so z h ot to) (hl : ps.length < 1000000) (ks : okSt s ∧ s.length ≤ 10) (kab : Zs ab) (hb : Body s to) (hw : s = "begin" → fs.head? = some z := by intro z; exact absurd z (by decide)) (hk : so = .str s ∧ ot = .str ab := by exact ⟨rfl, rfl⟩) : HI fs (addDeed ps so z h ot to) (putKs st (.inr [.inr s, .inr ab]) (.tuple .mad [.str s, .str ab]) (.tuple .mad [.str h, .int ps.length])) := by
  have g2 := g.add sz hl
  refine ⟨⟨g2.th, tups_put g.ts, fun s' ab' nm e => ?_⟩, g2.fk, g2.nm, g2.sm, fun p hp => ?_, fun nm d e e2 => ?_, fun p hp => by
    rcases mem_putKs hp with rfl | ⟨q, hq, _, e | e⟩
    · rfl
    · rw [e]; rfl
    · rw [e]; exact g.nv q hq, fun s' ab' nm d e e2 => by
    unfold lkS at e
    rw [look_put rfl] at e
    by_cases q : (Sum.inr [.inr s', .inr ab'] : Key ⊕ List Key) = .inr [.inr s, .inr ab]
    · rw [if_pos q] at e
      cases e
      injection q with q
      injection q with q1 q2
      injection q1 with q1
      injection q2 with q2 _
      injection q2 with q2
      subst q1
      subst q2
      have e4 : look kOf (.inr [.inr h, .inl (ps.length : Int)]) (addDeed ps so z h ot to) = some d := e2
      rw [g.new (so := so) (ot := ot) (to := to) (z := z) (h := h)] at e4
      cases e4
      rw [hk.1, hk.2]
      exact ⟨_, _, _, _, _, _, rfl⟩
    · rw [if_neg q] at e
      exact g2.ky s' ab' nm d e e2, g2.hs⟩
  case refine_3 =>
    unfold lkS at e
    rw [look_put rfl] at e
    by_cases q : (Sum.inr [.inr "begin", .inr ""] : Key ⊕ List Key) = .inr [.inr s, .inr ab]
    · rw [if_pos q] at e
      cases e
      have es : s = "begin" := by
        injection q with q
        injection q with q _
        injection q with q
        exact q.symm
      have e3 := g.new (so := so) (ot := ot) (to := to) (z := z) (h := h)
      have e4 : look kOf (.inr [.inr h, .inl (ps.length : Int)]) (addDeed ps so z h ot to) = some d := e2
      rw [e3] at e4
      cases e4
      exact ⟨_, _, _, z, _, _, _, _, rfl, hw es⟩
    · rw [if_neg q] at e
      exact g2.bw nm d e e2
  case refine_2 =>
    have kk : Wl 1 500 (.tuple .mad [.str s, .str ab]) := (wl_tup (m := 0) (wls_cons (wl_str ks.1 ks.2) (wls_cons (wl_str kab.1 kab.2) wls_nil))).mono (Nat.le_refl _) (by omega)
    have vv : Wl 1 300 (.tuple .mad [.str h, .int ps.length]) := (wl_name sz.h hl).mono (Nat.le_refl _) (by omega)
    rcases mem_putKs hp with rfl | ⟨q, hq, e1, e2⟩
    · exact ⟨⟨s, ab, rfl⟩, kk, vv⟩
    · obtain ⟨q1, q2, q3⟩ := g.ss q hq
      rw [e1]
      refine ⟨q1, q2, ?_⟩
      rcases e2 with e2 | e2
      · rw [e2]; exact vv
      · rw [e2]; exact q3
  unfold lkS at e
  rw [look_put rfl] at e
  by_cases q : (Sum.inr [.inr s', .inr ab'] : Key ⊕ List Key) = .inr [.inr s, .inr ab]
  · rw [if_pos q] at e
    cases e
    have es : s' = s := by
      injection q with q
      injection q with q _
      injection q
    subst es
    exact ⟨_, h, _, _, _, _, z, _, to, _, _, rfl, g.new, hb⟩
  · rw [if_neg q] at e
    exact g2.at_ s' ab' nm e
theorem HI.drop (g : HI fs ps st) {k : Key ⊕ List Key} : HI fs ps (dropKs st k) := by
  refine ⟨⟨g.th, fun p hp => g.ts p ((List.mem_filter.mp hp).1), fun s ab nm e => ?_⟩, g.fk, g.nm, g.sm, fun p hp => g.ss p ((List.mem_filter.mp hp).1), fun nm d e e2 => ?_, fun p hp => g.nv p (List.mem_filter.mp hp).1, fun s ab nm d e e2 => by
    unfold lkS at e
    rw [look_drop] at e
    by_cases q : (Sum.inr [.inr s, .inr ab] : Key ⊕ List Key) = k
    · rw [if_pos q] at e; cases e
    · rw [if_neg q] at e
      exact g.ky s ab nm d e e2, g.hs⟩
  · unfold lkS at e
    rw [look_drop] at e
    by_cases q : (Sum.inr [.inr s, .inr ab] : Key ⊕ List Key) = k
    · rw [if_pos q] at e; cases e
    · rw [if_neg q] at e
      exact g.at_ s ab nm e
  unfold lkS at e
  rw [look_drop] at e
  by_cases q : (Sum.inr [.inr "begin", .inr ""] : Key ⊕ List Key) = k
  · rw [if_pos q] at e; cases e
  · rw [if_neg q] at e
    exact g.bw nm d e e2
end
end K20

namespace K20
open PySem PySem.Spec PyProof.Rows L2 Br Dl
def AddA (k : D → Cs → Prop) (d1 d2 d3 d4 : D) (ρ : Cs) : Prop := (slotsOf [.inl 2, .inr d1, .inr d2, .inr d3, .inr d4]).Nodup ∧ slotsOf (([.inl 2, .inr d1, .inr d2, .inr d3, .inr d4] : List Ar).drop 1) = [] ∧ match cellsOf ρ [.inl 2, .inr d1, .inr d2, .inr d3, .inr d4] with
  | some cs => F_law_add cs fun r cs' => k r (putBack ρ [.inl 2, .inr d1, .inr d2, .inr d3, .inr d4] cs')
  | none => False
theorem adda {k : D → Cs → Prop} {d1 d3 d4 : D} {z h : Str} {ρ : Cs} {ps : List (D × D)} (e : ρ[2]? = some (.own (.dict ps))) (p : Pn z h) (t : tups ps) (hl : ps.length < sizeLine) (q : k (.tuple .mad [.str h, .int ps.length]) (ρ.set 2 (.own (.dict (addDeed ps d1 z h d3 d4))))) : AddA k d1 (.str z) d3 d4 ρ := by
  refine ⟨by simp [slotsOf], rfl, ?_⟩
  have ec : cellsOf ρ [.inl 2, .inr d1, .inr (.str z), .inr d3, .inr d4] = some [.own (.dict ps), .fro d1, .fro (.str z), .fro d3, .fro d4] := by simp [cellsOf, e]
  rw [ec]
  exact add_s p t hl q
theorem call_add {m1 m2 m3 m4 : ME} {ρ : Cs} {k : D → Cs → Prop} {x : D} (e : ρ[2]? = some (.own x)) (h : m1 ρ fun d1 ρ1 => m2 ρ1 fun d2 ρ2 => m3 ρ2 fun d3 ρ3 => m4 ρ3 fun d4 ρ4 => AddA k d1 d2 d3 d4 ρ4) : mCall F_law_add 1 (rOwn 2 (rCons m1 (rCons m2 (rCons m3 (rCons m4 rNil))))) ρ k := by
  have st : mCall F_law_add 1 (rOwn 2 (rCons m1 (rCons m2 (rCons m3 (rCons m4 rNil))))) ρ k = mOwn 2 ρ fun _ _ => m1 ρ fun d1 ρ1 => m2 ρ1 fun d2 ρ2 => m3 ρ2 fun d3 ρ3 => m4 ρ3 fun d4 ρ4 => AddA k d1 d2 d3 d4 ρ4 := rfl
  rw [st]
  unfold mOwn
  rw [e]
  exact h
/-- a written text -/
def litOk (n : Nat) (x : Str) : Bool := x.cps.toList.all (fun c => decide (c < 1114112)) && decide (x.length ≤ n)
theorem wl_lit {m n : Nat} {x : Str} (h : litOk n x = true) : Wl m n (.str x) := by
  unfold litOk at h
  simp only [Bool.and_eq_true, decide_eq_true_eq] at h
  exact wl_str (fun c hc => of_decide_eq_true (List.all_eq_true.mp h.1 c hc)) h.2
theorem ok_lit {n : Nat} {x : Str} (h : litOk n x = true) : okSt x ∧ x.length ≤ n := by
  unfold litOk at h
  simp only [Bool.and_eq_true, decide_eq_true_eq] at h
  exact ⟨fun c hc => of_decide_eq_true (List.all_eq_true.mp h.1 c hc), h.2⟩
structure HN (fs : List Str) (n : Nat) (ps st : List (D × D)) : Prop where
  i : HI fs ps st
  l : ps.length ≤ n
  ne : ps ≠ []
  b : (lkS st "begin" "").isSome = true
theorem HI.len {fs : List Str} {ps st : List (D × D)} (g : HI fs ps st) {so ot to : D} {z h : Str} : (addDeed ps so z h ot to).length = ps.length + 1 ∧ addDeed ps so z h ot to ≠ [] := by
  rw [g.add_eq]
  exact ⟨by rw [List.length_append, List.length_singleton], by simp⟩
theorem HN.add {fs : List Str} {n : Nat} {ps st : List (D × D)} (g : HN fs n ps st) {so ot to : D} {z h : Str} (sz : Sz fs so z h ot to) (hn : n < 1000) : HN fs (n + 1) (addDeed ps so z h ot to) st := ⟨g.i.add sz (by have := g.l; omega), by have := g.l; rw [g.i.len.1]; omega, g.i.len.2, g.b⟩
theorem HN.put {fs : List Str} {n : Nat} {ps st : List (D × D)} (g : HN fs n ps st) {so ot to : D} {z h s ab : Str} (sz : Sz fs so z h ot to) (hn : n < 1000) (ks : okSt s ∧ s.length ≤ 10) (kab : Zs ab) (hb : Body s to) (hw : s = "begin" → fs.head? = some z := by intro z; exact absurd z (by decide)) (hk : so = .str s ∧ ot = .str ab := by exact ⟨rfl, rfl⟩) : HN fs (n + 1) (addDeed ps so z h ot to) (putKs st (.inr [.inr s, .inr ab]) (.tuple .mad [.str s, .str ab]) (.tuple .mad [.str h, .int ps.length])) := by
  refine ⟨g.i.put sz (by have := g.l; omega) ks kab hb hw hk, by have := g.l; rw [g.i.len.1]; omega, g.i.len.2, ?_⟩
  unfold lkS
  rw [look_put rfl]
  split
  · rfl
  · exact g.b
theorem rng_take {j : Nat} {n : Int} {ρ : Cs} {k : List D → Cs → Prop} {c : Cell} (hj : ρ[j]? = some c) (p : PL c) (hn : 0 < n) (hn2 : n < 1000) (h : ∀ (t : Nat) (c' : Cell), (t : Int) < n → PL c' → k (intsD 0 t) (ρ.set j c')) : mRng1 (aCons (mCall F_law_take 1 (rOwn j (rCons (mC (.int n)) rNil))) aNil) ρ k :=
  call_take (k := fun d ρ1 => match ([d] : List D) with | [.int j] => -(2 ^ 62) ≤ j ∧ j < 2 ^ 62 ∧ k (intsD 0 j.toNat) ρ1 | _ => False) hj p (fun _ z => z) hn (by omega) fun t c' t0 t1 p' => ⟨by omega, by omega, h t.toNat c' (by omega) p'⟩
theorem intsD_len {n : Nat} : (intsD 0 n).length = n := by unfold intsD; rw [List.length_map, List.length_range]
/-- the people -/
structure Fo (a b d e : Str) : Prop where
  a : Pd a
  b : Pd b
  d : Pd d
  e : Pd e
theorem Fo.zs {a b d e : Str} (f : Fo a b d e) : ∀ z ∈ [a, b, d, e], Zs z := by
  intro z hz
  simp at hz
  rcases hz with rfl | rfl | rfl | rfl
  · exact f.a.zs
  · exact f.b.zs
  · exact f.d.zs
  · exact f.e.zs
theorem Fo.ma {a b d e : Str} (f : Fo a b d e) : a ∈ [a, b, d, e] := by simp
theorem us_str {fs : List Str} {x : Str} : Us fs (.str x) := fun _ _ _ z => nomatch z
theorem us_rows {fs : List Str} {us ws : List D} (h : ∀ u ∈ us, Pr (· ∈ fs) u) : Us fs (.tuple .mad [.tuple .frz us, .tuple .frz ws]) := fun c us' ws' e u hu => by
  cases e
  obtain ⟨c, z, i, e, ⟨_, m⟩, _⟩ := h u hu
  exact ⟨c, z, i, e, m⟩
def fo (a b d e : Str) : D := .list [.str a, .str b, .str d, .str e]
theorem four_at {a b d e : Str} (f : Fo a b d e) {t : Int} {k : D → Prop} (t0 : 0 ≤ t) (t1 : t < 4) (h : ∀ z, Pd z ∧ z ∈ [a, b, d, e] → k (.str z)) : oIx (fo a b d e) (.int t) k := by
  have : t = 0 ∨ t = 1 ∨ t = 2 ∨ t = 3 := by omega
  rcases this with rfl | rfl | rfl | rfl
  · exact h _ ⟨f.a, by simp⟩
  · exact h _ ⟨f.b, by simp⟩
  · exact h _ ⟨f.d, by simp⟩
  · exact h _ ⟨f.e, by simp⟩
/-- one of the people, drawn -/
theorem who_s {a b d e : Str} (f : Fo a b d e) {c x2 x3 x4 x5 x6 : Cell} {k : D → Cs → Prop} (p : PL c) (h : ∀ z c', Pd z ∧ z ∈ [a, b, d, e] → PL c' → k (.str z) [c', .fro (fo a b d e), x2, x3, x4, x5, x6]) :
    mOp oIx (mVar 1) (mCall F_law_take 1 (rOwn 0 (rCons (mUn oLen (mVar 1)) rNil))) [c, .fro (fo a b d e), x2, x3, x4, x5, x6] k :=
  op_var (i := 1) rfl (call_take (j := 0) (n := 4) rfl p (fun _ z => z) (by decide) (by decide) fun t c' t0 t1 p' => four_at f t0 t1 fun z pz => h z c' pz p')
def say_body : MS := (sDrop (mCall F_law_add 1 (rOwn 2 (rCons (mC (.str "say")) (rCons (mOp oIx (mVar 1) (mC (.int 0))) (rCons (mC (.str "")) (rCons (mC (.str "so")) rNil)))))))
theorem say_step {a b d e : Str} (f : Fo a b d e) {E : Dn} {n : Nat} {ps st : List (D × D)} {c x4 x5 x6 : Cell} (g : HN [a, b, d, e] n ps st) (hn : n < 1000) (h : ∀ ps', HN [a, b, d, e] (n + 1) ps' st → E.nx [c, .fro (fo a b d e), .own (.dict ps'), .own (.dict st), x4, x5, x6]) :
    say_body E [c, .fro (fo a b d e), .own (.dict ps), .own (.dict st), x4, x5, x6] := by
  have s : 1000 ≤ sizeLine := by decide
  obtain ⟨ho, hp, hz⟩ := f.a.pn2
  have A : AddA (fun _ ρ1 => E.nx ρ1) (.str "say") (.str a) (.str "") (.str "so") [c, .fro (fo a b d e), .own (.dict ps), .own (.dict st), x4, x5, x6] := adda rfl hp g.i.th (by have := g.l; omega) (h _ (g.add ⟨f.ma, us_str, wl_lit (by decide +kernel), f.a.zs, hz, wl_lit (by decide +kernel), wl_lit (by decide +kernel)⟩ hn))
  exact call_add (m1 := mC (.str "say")) (m2 := mOp oIx (mVar 1) (mC (.int 0))) (m3 := mC (.str "")) (m4 := mC (.str "so")) (k := fun _ ρ1 => E.nx ρ1) (ρ := [c, .fro (fo a b d e), .own (.dict ps), .own (.dict st), x4, x5, x6]) rfl A
theorem say_L {a b d e : Str} (f : Fo a b d e) {E : Dn} {st : List (D × D)} {c x5 x6 : Cell} : ∀ (xs : List D) (n : Nat) (ps : List (D × D)) (x4 : Cell), HN [a, b, d, e] n ps st → n + xs.length < 1000 → (∀ ps' x4', HN [a, b, d, e] (n + xs.length) ps' st → E.nx [c, .fro (fo a b d e), .own (.dict ps'), .own (.dict st), x4', x5, x6]) →
    sForL (mgName 4) say_body E xs [c, .fro (fo a b d e), .own (.dict ps), .own (.dict st), x4, x5, x6]
  | [], n, ps, x4, g, hn, h => h ps x4 g
  | x :: xs, n, ps, x4, g, hn, h => by
    have hn' : n + (xs.length + 1) < 1000 := hn
    refine (say_step (x4 := .fro x) f g (by omega) fun ps' g' => ?_ : say_body _ [c, .fro (fo a b d e), .own (.dict ps), .own (.dict st), .fro x, x5, x6])
    exact say_L f xs (n + 1) ps' _ g' (by omega) fun ps2 x4' g2 => h ps2 x4' (by rw [List.length_cons, show n + (xs.length + 1) = n + 1 + xs.length by omega]; exact g2)
def putIn (E : Dn) (mi : ME) (dv : D) (ρ1 : Cs) : Prop := mOwn 3 ρ1 fun _ _ => mi ρ1 fun di ρ2 => match (ρ2[3]? : Option Cell) with
  | some (.own d) => oPut d di dv fun d' => E.nx (ρ2.set 3 (.own d'))
  | _ => False
theorem put_eq {E : Dn} {mv mi : ME} {ρ : Cs} (h : mv ρ (putIn E mi)) : sPut 3 mv mi E ρ := h
theorem put_len {st : List (D × D)} {k : Key ⊕ List Key} {key v : D} : (putKs st k key v).length ≤ st.length + 1 := by
  unfold putKs
  split
  · rw [List.length_map]; omega
  · rw [List.length_append, List.length_singleton]; omega
theorem call_rows {zs : List Str} {c x2 x3 x4 x5 x6 : Cell} {k : D → Cs → Prop} (p : PL c) (hl : zs.length ≤ 4) (hz : ∀ z ∈ zs, Zs z) (h : ∀ (us ws : List D) c', PL c' → (∀ u ∈ us, Pr (· ∈ zs) u) → (zs.Nodup → (us.map rowK).Nodup) → numsU ws → Wl 3 5000 (.tuple .mad [.tuple .frz us, .tuple .frz ws]) → k (.tuple .mad [.tuple .frz us, .tuple .frz ws]) [c', .fro (.list (zs.map .str)), x2, x3, x4, x5, x6]) :
    mCall F_law_rank_rows 1 (rOwn 0 (rCons (mVar 1) rNil)) [c, .fro (.list (zs.map .str)), x2, x3, x4, x5, x6] k := by
  obtain ⟨i, j, rfl, p'⟩ := id p
  have A : Aft F_law_rank_rows 0 k (.list (zs.map .str)) [.own (.list [.int i, .int j]), .fro (.list (zs.map .str)), x2, x3, x4, x5, x6] := aft (x := .list [.int i, .int j]) rfl (rows_s p hl hz fun us ws c' pc hu nu hw hq => h us ws c' pc hu nu hw hq)
  exact call_j (x := .list [.int i, .int j]) (m := mVar 1) rfl A
def ranks_body : MS := (sPut 3 (mCall F_law_add 1 (rOwn 2 (rCons (mC (.str "ranks")) (rCons (mOp oIx (mVar 1) (mCall F_law_take 1 (rOwn 0 (rCons (mUn oLen (mVar 1)) rNil)))) (rCons (mC (.str "")) (rCons (mCall F_law_rank_rows 1 (rOwn 0 (rCons (mVar 1) rNil))) rNil)))))) (mTup (aCons (mC (.str "ranks")) (aCons (mC (.str "")) aNil))))
theorem body_ranks {us ws : List D} (hu : numsD us) (hw : numsU ws) : Body "ranks" (.tuple .mad [.tuple .frz us, .tuple .frz ws]) := ⟨fun z => absurd z (by decide), fun _ => ⟨_, us, ws, rfl, hu, hw⟩, fun z => absurd z (by decide)⟩
theorem ranks_step {a b d e : Str} (f : Fo a b d e) {E : Dn} {n : Nat} {ps st : List (D × D)} {c x4 x5 x6 : Cell} (p : PL c) (g : HN [a, b, d, e] n ps st) (hn : n < 1000) (hs : st.length < 1000) (h : ∀ ps' st' c', PL c' → HN [a, b, d, e] (n + 1) ps' st' → st'.length ≤ st.length + 1 → E.nx [c', .fro (fo a b d e), .own (.dict ps'), .own (.dict st'), x4, x5, x6]) :
    ranks_body E [c, .fro (fo a b d e), .own (.dict ps), .own (.dict st), x4, x5, x6] := by
  have s : 1000 ≤ sizeLine := by decide
  have gl := g.l
  refine put_eq (call_add (m1 := mC (.str "ranks")) (m2 := mOp oIx (mVar 1) (mCall F_law_take 1 (rOwn 0 (rCons (mUn oLen (mVar 1)) rNil)))) (m3 := mC (.str "")) (m4 := mCall F_law_rank_rows 1 (rOwn 0 (rCons (mVar 1) rNil))) rfl ?_)
  refine who_s f p fun z c1 ⟨pz, mz⟩ p1 => ?_
  obtain ⟨ho, hp, hz⟩ := pz.pn2
  refine call_rows (zs := [a, b, d, e]) p1 (Nat.le_refl 4) f.zs fun us ws c2 p2 hu nu hw hq => ?_
  exact adda rfl hp g.i.th (by omega) ⟨show 2 ≤ sizeLine by omega, rfl, fits_t g.i.ts, by omega, h _ _ c2 p2 (g.put ⟨mz, us_rows hu, wl_lit (by decide +kernel), pz.zs, hz, wl_lit (by decide +kernel), hq⟩ hn (ok_lit (by decide +kernel)) (ok_lit (by decide +kernel)) (body_ranks (nums_of hu) hw)) put_len⟩
theorem ranks_L {a b d e : Str} (f : Fo a b d e) {E : Dn} {x5 x6 : Cell} : ∀ (xs : List D) (n : Nat) (ps st : List (D × D)) (c x4 : Cell), PL c → HN [a, b, d, e] n ps st → n + xs.length < 1000 → st.length + xs.length < 1000 → (∀ ps' st' c' x4', PL c' → HN [a, b, d, e] (n + xs.length) ps' st' → st'.length ≤ st.length + xs.length → E.nx [c', .fro (fo a b d e), .own (.dict ps'), .own (.dict st'), x4', x5, x6]) →
    sForL (mgName 4) ranks_body E xs [c, .fro (fo a b d e), .own (.dict ps), .own (.dict st), x4, x5, x6]
  | [], n, ps, st, c, x4, p, g, hn, hs, h => h ps st c x4 p g (by omega)
  | x :: xs, n, ps, st, c, x4, p, g, hn, hs, h => by
    have hn' : n + (xs.length + 1) < 1000 := hn
    have hs' : st.length + (xs.length + 1) < 1000 := hs
    refine (ranks_step (x4 := .fro x) f p g (by omega) (by omega) fun ps' st' c' p' g' l' => ?_ : ranks_body _ [c, .fro (fo a b d e), .own (.dict ps), .own (.dict st), .fro x, x5, x6])
    exact ranks_L f xs (n + 1) ps' st' c' _ p' g' (by omega) (by omega) fun ps2 st2 c2 x4' p2 g2 l2 => h ps2 st2 c2 x4' p2 (by rw [List.length_cons, show n + (xs.length + 1) = n + 1 + xs.length by omega]; exact g2) (by rw [List.length_cons]; omega)
end K20

namespace K20
open PySem PySem.Spec PyProof.Rows L2 Br Dl
def told_e : ME := (mOp oIx (mLst (aCons (mC (.str "in")) (aCons (mC (.str "in")) (aCons (mC (.str "in")) (aCons (mC (.str "out")) (aCons (mC (.str "called")) (aCons (mC (.str "barred")) aNil))))))) (mCall F_law_take 1 (rOwn 0 (rCons (mC (.int 6)) rNil))))
theorem told_s {c : Cell} {ρ : List Cell} {k : D → Cs → Prop} (p : PL c) (h : ∀ y c', okSt y ∧ y.length ≤ 10 → PL c' → k (.str y) (c' :: ρ)) : told_e (c :: ρ) k := by
  have s6 : 6 ≤ sizeLine := by decide
  refine (show 6 ≤ sizeLine ∧ _ from ⟨s6, ?_⟩)
  refine call_take (j := 0) (n := 6) (m := mC (.int 6)) (ρ := c :: ρ) rfl p (fun _ z => z) (by decide) (by decide) fun t c' t0 t1 p' => ?_
  have : t = 0 ∨ t = 1 ∨ t = 2 ∨ t = 3 ∨ t = 4 ∨ t = 5 := by omega
  rcases this with rfl | rfl | rfl | rfl | rfl | rfl <;> exact h _ c' (ok_lit (by decide +kernel)) p'
def seat_put : MS := (sPut 3 (mCall F_law_add 1 (rOwn 2 (rCons (mC (.str "seat")) (rCons (mOp oIx (mVar 1) (mCall F_law_take 1 (rOwn 0 (rCons (mUn oLen (mVar 1)) rNil)))) (rCons (mVar 5) (rCons (mVar 6) rNil)))))) (mTup (aCons (mC (.str "seat")) (aCons (mVar 5) aNil))))
def seat_body : MS := (sIf (mTest (mOp oGt (mCall F_law_take 1 (rOwn 0 (rCons (mC (.int 5)) rNil))) (mC (.int 0)))) (sSeq (sSet 6 told_e) seat_put) sNext)
theorem body_seat {y : Str} : Body "seat" (.str y) := ⟨fun z => absurd z (by decide), fun z => absurd z (by decide), fun _ => ⟨y, rfl⟩⟩
theorem body_door {y : Str} : Body "door" (.str y) := ⟨fun z => absurd z (by decide), fun z => absurd z (by decide), fun _ => ⟨y, rfl⟩⟩
theorem body_begin {r : Int} : Body "begin" (.tuple .mad [.int r, .none]) := ⟨fun _ => ⟨_, r, rfl⟩, fun z => absurd z (by decide), fun z => absurd z (by decide)⟩
theorem seat_put_s {a b d e : Str} (f : Fo a b d e) {E : Dn} {n : Nat} {ps st : List (D × D)} {c x4 : Cell} {o y : Str} (zo : Zs o) (zy : okSt y ∧ y.length ≤ 10) (p : PL c) (g : HN [a, b, d, e] n ps st) (hn : n < 1000) (hs : st.length < 1000) (h : ∀ ps' st' c', PL c' → HN [a, b, d, e] (n + 1) ps' st' → st'.length ≤ st.length + 1 → E.nx [c', .fro (fo a b d e), .own (.dict ps'), .own (.dict st'), x4, .fro (.str o), .fro (.str y)]) :
    seat_put E [c, .fro (fo a b d e), .own (.dict ps), .own (.dict st), x4, .fro (.str o), .fro (.str y)] := by
  have s : 1000 ≤ sizeLine := by decide
  have gl := g.l
  refine put_eq (call_add (m1 := mC (.str "seat")) (m2 := mOp oIx (mVar 1) (mCall F_law_take 1 (rOwn 0 (rCons (mUn oLen (mVar 1)) rNil)))) (m3 := mVar 5) (m4 := mVar 6) rfl ?_)
  refine who_s f p fun z c1 ⟨pz, mz⟩ p1 => ?_
  obtain ⟨ho, hp, hz⟩ := pz.pn2
  have A : AddA (putIn E (mTup (aCons (mC (.str "seat")) (aCons (mVar 5) aNil)))) (.str "seat") (.str z) (.str o) (.str y) [c1, .fro (fo a b d e), .own (.dict ps), .own (.dict st), x4, .fro (.str o), .fro (.str y)] :=
    adda rfl hp g.i.th (by omega) ⟨show 2 ≤ sizeLine by omega, rfl, fits_t g.i.ts, by omega, h _ _ c1 p1 (g.put ⟨mz, us_str, wl_lit (by decide +kernel), pz.zs, hz, wl_str zo.1 zo.2, wl_str zy.1 (by omega)⟩ hn (ok_lit (by decide +kernel)) zo body_seat) put_len⟩
  exact A
theorem seat_step {a b d e : Str} (f : Fo a b d e) {E : Dn} {n : Nat} {ps st : List (D × D)} {c x4 x6 : Cell} {o : Str} (zo : Zs o) (p : PL c) (g : HN [a, b, d, e] n ps st) (hn : n < 1000) (hs : st.length < 1000) (h : ∀ ps' st' c' x6', PL c' → HN [a, b, d, e] (n + 1) ps' st' → st'.length ≤ st.length + 1 → E.nx [c', .fro (fo a b d e), .own (.dict ps'), .own (.dict st'), x4, .fro (.str o), x6']) :
    seat_body E [c, .fro (fo a b d e), .own (.dict ps), .own (.dict st), x4, .fro (.str o), x6] := by
  refine test_gt (j := 0) (n := 5) (ρ := [c, .fro (fo a b d e), .own (.dict ps), .own (.dict st), x4, .fro (.str o), x6]) rfl p (by decide) (by decide) fun b' c1 p1 => ?_
  cases b'
  · rw [if_neg (by decide)]
    exact h ps st c1 x6 p1 ⟨g.i, by have := g.l; omega, g.ne, g.b⟩ (by omega)
  · rw [if_pos rfl]
    refine seq_set (told_s p1 fun y c2 zy p2 => ?_)
    exact seat_put_s f zo zy p2 g hn hs fun ps' st' c' p' g' l' => h ps' st' c' _ p' g' l'
theorem seats_L {a b d e : Str} (f : Fo a b d e) {E : Dn} {x4 : Cell} : ∀ (zs : List Str) (n : Nat) (ps st : List (D × D)) (c x5 x6 : Cell), (∀ z ∈ zs, Zs z) → PL c → HN [a, b, d, e] n ps st → n + zs.length < 1000 → st.length + zs.length < 1000 → (∀ ps' st' c' x5' x6', PL c' → HN [a, b, d, e] (n + zs.length) ps' st' → st'.length ≤ st.length + zs.length → E.nx [c', .fro (fo a b d e), .own (.dict ps'), .own (.dict st'), x4, x5', x6']) →
    sForL (mgName 5) seat_body E (zs.map .str) [c, .fro (fo a b d e), .own (.dict ps), .own (.dict st), x4, x5, x6]
  | [], n, ps, st, c, x5, x6, _, p, g, hn, hs, h => h ps st c x5 x6 p g (by omega)
  | o :: zs, n, ps, st, c, x5, x6, hz, p, g, hn, hs, h => by
    have hn' : n + (zs.length + 1) < 1000 := hn
    have hs' : st.length + (zs.length + 1) < 1000 := hs
    refine (seat_step f (hz o List.mem_cons_self) p g (by omega) (by omega) fun ps' st' c' x6' p' g' l' => ?_ : seat_body _ [c, .fro (fo a b d e), .own (.dict ps), .own (.dict st), x4, .fro (.str o), x6])
    exact seats_L f zs (n + 1) ps' st' c' _ _ (fun z q => hz z (List.mem_cons_of_mem _ q)) p' g' (by omega) (by omega) fun ps2 st2 c2 x5' x6'' p2 g2 l2 => h ps2 st2 c2 x5' x6'' p2 (by rw [List.length_cons, show n + (zs.length + 1) = n + 1 + zs.length by omega]; exact g2) (by rw [List.length_cons]; omega)
end K20

namespace K20
open PySem PySem.Spec PyProof.Rows L2 Br Dl
def begin_to : ME := (mTup (aCons (mOp oAdd (mC (.int 1)) (mCall F_law_take 1 (rOwn 0 (rCons (mC (.int 2)) rNil)))) (aCons (mC .none) aNil)))
def begin_put : MS := (sPut 3 (mCall F_law_add 1 (rOwn 2 (rCons (mC (.str "begin")) (rCons (mOp oIx (mVar 1) (mC (.int 0))) (rCons (mC (.str "")) (rCons begin_to rNil)))))) (mTup (aCons (mC (.str "begin")) (aCons (mC (.str "")) aNil))))
def door_to : ME := (mOp oIx (mLst (aCons (mC (.str "open")) (aCons (mC (.str "asked")) aNil))) (mCall F_law_take 1 (rOwn 0 (rCons (mC (.int 2)) rNil))))
def door_put : MS := (sPut 3 (mCall F_law_add 1 (rOwn 2 (rCons (mC (.str "door")) (rCons (mOp oIx (mVar 1) (mC (.int 0))) (rCons (mC (.str "")) (rCons door_to rNil)))))) (mTup (aCons (mC (.str "door")) (aCons (mC (.str "")) aNil))))
theorem begin_to_s {c : Cell} {ρ : List Cell} {k : D → Cs → Prop} (p : PL c) (h : ∀ (r : Int) c', 0 ≤ r → r < 100 → PL c' → k (.tuple .mad [.int r, .none]) (c' :: ρ)) : begin_to (c :: ρ) k := by
  have s2 : 2 ≤ sizeLine := by decide
  have e : begin_to (c :: ρ) k = mOp oAdd (mC (.int 1)) (mCall F_law_take 1 (rOwn 0 (rCons (mC (.int 2)) rNil))) (c :: ρ) fun d ρ1 => 2 ≤ sizeLine ∧ k (.tuple .mad [d, .none]) ρ1 := rfl
  rw [e]
  exact one_take rfl p (by decide) (by decide) fun t c' p' t0 t1 => ⟨s2, h t c' (by omega) (by omega) p'⟩
theorem door_to_s {c : Cell} {ρ : List Cell} {k : D → Cs → Prop} (p : PL c) (h : ∀ y c', okSt y ∧ y.length ≤ 10 → PL c' → k (.str y) (c' :: ρ)) : door_to (c :: ρ) k := by
  have s2 : 2 ≤ sizeLine := by decide
  refine (show 2 ≤ sizeLine ∧ _ from ⟨s2, ?_⟩)
  refine call_take (j := 0) (n := 2) (m := mC (.int 2)) (ρ := c :: ρ) rfl p (fun _ z => z) (by decide) (by decide) fun t c' t0 t1 p' => ?_
  have : t = 0 ∨ t = 1 := by omega
  rcases this with rfl | rfl <;> exact h _ c' (ok_lit (by decide +kernel)) p'
theorem us_int {fs : List Str} {r : Int} : Us fs (.tuple .mad [.int r, .none]) := fun _ _ _ z => nomatch z
theorem begin_put_s {a b d e : Str} (f : Fo a b d e) {E : Dn} {c x4 x5 x6 : Cell} (p : PL c) (h : ∀ ps' st' c', PL c' → HN [a, b, d, e] 1 ps' st' → st'.length ≤ 1 → E.nx [c', .fro (fo a b d e), .own (.dict ps'), .own (.dict st'), x4, x5, x6]) :
    begin_put E [c, .fro (fo a b d e), .own (.dict []), .own (.dict []), x4, x5, x6] := by
  have s : 1000 ≤ sizeLine := by decide
  obtain ⟨ho, hp, hz⟩ := f.a.pn2
  refine put_eq (call_add (m1 := mC (.str "begin")) (m2 := mOp oIx (mVar 1) (mC (.int 0))) (m3 := mC (.str "")) (m4 := begin_to) rfl ?_)
  refine begin_to_s (ρ := [.fro (fo a b d e), .own (.dict []), .own (.dict []), x4, x5, x6]) p fun r c1 r0 r1 p1 => ?_
  have G : HN [a, b, d, e] 1 (addDeed [] (.str "begin") a ho (.str "") (.tuple .mad [.int r, .none])) (putKs [] (.inr [.inr "begin", .inr ""]) (.tuple .mad [.str "begin", .str ""]) (.tuple .mad [.str ho, .int (([] : List (D × D)).length : Nat)])) := by
    refine ⟨HI.nil.put ⟨f.ma, us_int, wl_lit (by decide +kernel), f.a.zs, hz, wl_lit (by decide +kernel), (wl_tup (m := 0) (wls_cons (wl_int (n := 0) (by omega)) (wls_cons (wl_none (n := 0)) wls_nil))).mono (by omega) (by omega)⟩ (by decide) (ok_lit (by decide +kernel)) (ok_lit (by decide +kernel)) body_begin (fun _ => rfl), by rw [(HI.nil (fs := [a, b, d, e])).len.1]; exact Nat.le_refl _, (HI.nil (fs := [a, b, d, e])).len.2, ?_⟩
    unfold lkS
    rw [look_put rfl, if_pos rfl]; rfl
  have A : AddA (putIn E (mTup (aCons (mC (.str "begin")) (aCons (mC (.str "")) aNil)))) (.str "begin") (.str a) (.str "") (.tuple .mad [.int r, .none]) [c1, .fro (fo a b d e), .own (.dict []), .own (.dict []), x4, x5, x6] :=
    adda rfl hp (fun _ z => nomatch z) (show 0 < sizeLine by omega) ⟨show 2 ≤ sizeLine by omega, rfl, rfl, (show 0 < sizeLine by omega), h _ _ c1 p1 G put_len⟩
  exact A
theorem door_put_s {a b d e : Str} (f : Fo a b d e) {E : Dn} {n : Nat} {ps st : List (D × D)} {c x4 x5 x6 : Cell} (p : PL c) (g : HN [a, b, d, e] n ps st) (hn : n < 1000) (hs : st.length < 1000) (h : ∀ ps' st' c', PL c' → HN [a, b, d, e] (n + 1) ps' st' → st'.length ≤ st.length + 1 → E.nx [c', .fro (fo a b d e), .own (.dict ps'), .own (.dict st'), x4, x5, x6]) :
    door_put E [c, .fro (fo a b d e), .own (.dict ps), .own (.dict st), x4, x5, x6] := by
  have s : 1000 ≤ sizeLine := by decide
  have gl := g.l
  obtain ⟨ho, hp, hz⟩ := f.a.pn2
  refine put_eq (call_add (m1 := mC (.str "door")) (m2 := mOp oIx (mVar 1) (mC (.int 0))) (m3 := mC (.str "")) (m4 := door_to) rfl ?_)
  refine door_to_s (ρ := [.fro (fo a b d e), .own (.dict ps), .own (.dict st), x4, x5, x6]) p fun y c1 zy p1 => ?_
  have A : AddA (putIn E (mTup (aCons (mC (.str "door")) (aCons (mC (.str "")) aNil)))) (.str "door") (.str a) (.str "") (.str y) [c1, .fro (fo a b d e), .own (.dict ps), .own (.dict st), x4, x5, x6] :=
    adda rfl hp g.i.th (by omega) ⟨show 2 ≤ sizeLine by omega, rfl, fits_t g.i.ts, by omega, h _ _ c1 p1 (g.put ⟨f.ma, us_str, wl_lit (by decide +kernel), f.a.zs, hz, wl_lit (by decide +kernel), wl_str zy.1 (by omega)⟩ hn (ok_lit (by decide +kernel)) (ok_lit (by decide +kernel)) body_door) put_len⟩
  exact A
end K20

namespace K20
open PySem PySem.Spec PyProof.Rows L2 Br Dl
/-- keys are ints and texts, values ints, each found under its key -/
def Pl (q : List (D × D)) : Prop := ∀ p ∈ q, isTupD p.1 = false ∧ (∃ k, kOf p.1 = some (.inl k)) ∧ (∃ i, p.2 = .int i) ∧ dLook q p.1 = some p.2
theorem pl_nil : Pl [] := fun _ z => nomatch z
theorem dlook_k {q : List (D × D)} {d : D} {k : Key ⊕ List Key} (h : kOf d = some k) : dLook q d = look kOf k q := by
  unfold dLook; rw [h]
theorem mem_put {ps : List (D × D)} {k : Key ⊕ List Key} {key v : D} (hk : kOf key = some k) {p : D × D} (h : p ∈ putKs ps k key v) : (kOf p.1 = some k ∧ p.2 = v) ∨ (p ∈ ps ∧ kOf p.1 ≠ some k) := by
  unfold putKs at h
  split at h
  · obtain ⟨q, hq, e⟩ := List.mem_map.mp h
    by_cases z : kOf q.1 = some k
    · rw [if_pos z] at e
      subst e
      exact .inl ⟨z, rfl⟩
    · rw [if_neg z] at e
      subst e
      exact .inr ⟨hq, z⟩
  · rename_i na
    rcases List.mem_append.mp h with h | h
    · refine .inr ⟨h, fun z => na ?_⟩
      exact List.any_eq_true.mpr ⟨p, h, decide_eq_true z⟩
    · cases List.mem_singleton.mp h
      exact .inl ⟨hk, rfl⟩
theorem pl_put {q : List (D × D)} (h : Pl q) (k : Key) (i : Int) : Pl (putKs q (.inl k) (keyD k) (.int i)) := by
  intro p hp
  rcases mem_put (kOf_D k) hp with ⟨a, b⟩ | ⟨a, b⟩
  · refine ⟨?_, ⟨k, a⟩, ⟨i, b⟩, ?_⟩
    · have := kOf_inl a
      rw [this]; cases k <;> rfl
    · rw [dlook_k a, look_put (kOf_D k), if_pos rfl, b]
  · obtain ⟨h1, ⟨k', h2⟩, h3, h4⟩ := h p a
    refine ⟨h1, ⟨k', h2⟩, h3, ?_⟩
    rw [dlook_k h2, look_put (kOf_D k), if_neg (fun z => b (by rw [h2, z])), ← dlook_k h2]
    exact h4
theorem pl_merge : ∀ {more : List (Key × D)} {ps : List (D × D)}, Pl ps → (∀ q ∈ more, ∃ i, q.2 = .int i) → Pl (mergeD ps more)
  | [], _, h, _ => h
  | (k, d) :: more, ps, h, hv => by
    obtain ⟨i, e⟩ := hv _ List.mem_cons_self
    cases e
    exact pl_merge (more := more) (pl_put h k i) fun q hq => hv q (List.mem_cons_of_mem _ hq)
/-- of all people those above nought -/
def aboveL (q : List (D × D)) : List D → List (D × D) → List (D × D)
  | [], acc => acc
  | x :: r, acc => match dLook q x, Dl.keyOf x with
    | some (.int i), some k => if i > 0 then aboveL q r (putKs acc (.inl k) x (.int i)) else aboveL q r acc
    | _, _ => acc
theorem pl_above {q : List (D × D)} : ∀ (xs : List D) (acc : List (D × D)), Pl acc → Pl (aboveL q xs acc)
  | [], _, h => h
  | x :: r, acc, h => by
    unfold aboveL
    split
    · rename_i i k e1 e2
      split
      · have := keyOf_inv e2
        subst this
        exact pl_above r _ (pl_put h k i)
      · exact pl_above r acc h
    · exact h
theorem eq_self {q : List (D × D)} (h : Pl q) : eqDD q q := ⟨rfl, fun p hp => by
  obtain ⟨h1, h2, ⟨i, h3⟩, h4⟩ := h p hp
  exact ⟨by rw [h3]; rfl, h1, h4⟩⟩
theorem fits_pl {q : List (D × D)} (h : Pl q) {k : Key} : fits q (keyD k) = true := List.all_eq_true.mpr fun p hp => by
  rw [(h p hp).1]; cases k <;> rfl
/-- the walk -/
theorem above_L {q : List (D × D)} (hq : Pl q) {c0 c1 : Cell} {kk : List (D × D) → Cs → Prop} : ∀ (xs : List D) (acc : List (D × D)) (c3 : Cell), (∀ x ∈ xs, ∃ k i, x = keyD k ∧ dLook q x = some (.int i)) → kk (aboveL q xs acc) [c0, c1, .fro (.dict q), .un] →
    mDcL (mgName 3) (mTest (mOp oGt (mOp oIx (mVar 2) (mVar 3)) (mC (.int 0)))) (mVar 3) (mOp oIx (mVar 2) (mVar 3)) [3] kk xs acc [c0, c1, .fro (.dict q), .un]
  | [], acc, c3, _, h => h
  | x :: r, acc, c3, hx, h => by
    obtain ⟨k, i, rfl, e⟩ := hx x List.mem_cons_self
    have ek : Dl.keyOf (keyD k) = some k := keyOf_D k
    have e1 : kOf (keyD k) = some (.inl k) := kOf_D k
    unfold aboveL at h
    rw [e, ek] at h
    unfold mDcL
    simp [mgName, mTest, mOp, mVar, mC, oIx, e1, fits_pl hq, e, oCmp, ek, wipeC]
    by_cases z : 0 < i
    · have z' : i > 0 := z
      simp [z, z'] at h ⊢
      exact above_L hq r _ c3 (fun y hy => hx y (List.mem_cons_of_mem _ hy)) h
    · have z' : ¬ i > 0 := z
      simp [z, z'] at h ⊢
      exact above_L hq r _ c3 (fun y hy => hx y (List.mem_cons_of_mem _ hy)) h
section
variable {ps st : List (D × D)} (g : GH ps st)
include g
theorem pl_ppl : Pl (pplOf (bOf (dOf ps st "ranks" "") .none) (dOf ps st "begin" "")) := by
  have one : ∀ {wh : Str}, Pl [(.str wh, .int 100)] := fun {wh} => pl_put pl_nil (.inr wh) 100
  rcases dOf_cases g "ranks" "" with ⟨e, e1⟩ | ⟨c', hh, i, e', t, so, wh, ot, to, fi, fi', e, e2, e1, hb⟩
  · rw [e1]
    rcases dOf_cases g "begin" "" with ⟨f, f1⟩ | ⟨c2, hh2, i2, e2', t2, so2, wh2, ot2, to2, fi2, fi2', f, f2, f1, hb2⟩
    · rw [f1]; exact pl_nil
    · rw [f1]; exact one
  · obtain ⟨c3, us, ws, rfl, ⟨p, ep, hp⟩, hw⟩ := hb.2.1 rfl
    rw [e1]
    show Pl (mergeD [] ((prs us).getD []))
    rw [ep]
    exact pl_merge pl_nil fun q hq => (hp q hq).imp fun _ h => h.1
end
end K20

namespace K20
open PySem PySem.Spec PyProof.Rows L2 Br Dl
/-! what is lent, given back -/
theorem back_lend {is : List Nat} {ρ : Cs} : backC is ρ (lendC is ρ) = ρ := by
  refine List.ext_getElem? fun j => ?_
  unfold backC lendC
  rw [List.getElem?_mapIdx, List.getElem?_mapIdx]
  cases h : ρ[j]? with
  | none => rfl
  | some c =>
    by_cases z : j ∈ is
    · cases c <;> simp [z]
    · cases c <;> simp [z]
/-- a call that leaves the cells, with what is lent -/
theorem ev_lend {is : List Nat} {m : ME} {ρ ρ1 : Cs} {d : D} (e : lendC is ρ = ρ1) (h : Ev m ρ1 d) (ok : lendOk is ρ) (nd : noD d = true) (ho : ∀ (j : Nat) (d : D), ρ1[j]? = some (Cell.own d) → heldNo d = true) : Ev (mLend is m) ρ d := fun k q => by
  subst e
  exact ⟨ok, h _ ⟨nd, ⟨fun _ _ z => z, ho⟩, by rw [back_lend]; exact q⟩⟩
theorem ev_lendF {is : List Nat} {m : ME} {ρ ρ1 : Cs} {d : D} (e : lendC is ρ = ρ1) (h : Ev m ρ1 d) (ok : lendOk is ρ) (nd : heldNo d = true) (ho : ∀ (j : Nat) (d : D), ρ1[j]? = some (Cell.own d) → heldNo d = true) : Ev (mLendF is m) ρ d := fun k q => by
  subst e
  exact ⟨ok, h _ ⟨nd, ⟨fun _ _ z => z, ho⟩, by rw [back_lend]; exact q⟩⟩
theorem noDs_ints {xs : List Int} : noDs (xs.map .int) = true := by
  induction xs with
  | nil => rfl
  | cons x xs ih => exact ih
end K20

namespace K20
open PySem PySem.Spec PyProof.Rows L2 Br Dl
/-! keys are unlike -/
def Nd (ps : List (D × D)) : Prop := (ps.map (·.1)).Nodup
theorem nd_put {ps : List (D × D)} {k : Key ⊕ List Key} {key v : D} (hk : kOf key = some k) (h : Nd ps) : Nd (putKs ps k key v) := by
  unfold putKs
  split
  · have e : (ps.map fun p => if kOf p.1 = some k then (p.1, v) else p).map (·.1) = ps.map (·.1) := by
      rw [List.map_map]
      exact List.map_congr_left fun p _ => by simp only [Function.comp]; split <;> rfl
    unfold Nd
    rw [e]
    exact h
  · rename_i na
    unfold Nd
    rw [List.map_append]
    refine List.nodup_append.mpr ⟨h, by simp, fun a ha b hb => ?_⟩
    simp at hb
    subst hb
    rintro rfl
    obtain ⟨p, hp, e⟩ := List.mem_map.mp ha
    exact na (List.any_eq_true.mpr ⟨p, hp, decide_eq_true (by rw [e]; exact hk)⟩)
theorem nd_merge : ∀ {more : List (Key × D)} {ps : List (D × D)}, Nd ps → Nd (mergeD ps more)
  | [], _, h => h
  | (k, d) :: more, ps, h => nd_merge (more := more) (nd_put (kOf_D k) h)
theorem nd_above {q : List (D × D)} : ∀ (xs : List D) (acc : List (D × D)), Nd acc → Nd (aboveL q xs acc)
  | [], _, h => h
  | x :: r, acc, h => by
    unfold aboveL
    split
    · rename_i i k e1 e2
      split
      · have := keyOf_inv e2
        subst this
        exact nd_above r _ (nd_put (kOf_D k) h)
      · exact nd_above r acc h
    · exact h
theorem len_sub {α : Type} : ∀ {l m : List α}, l.Nodup → (∀ x ∈ l, x ∈ m) → l.length ≤ m.length
  | [], m, _, _ => Nat.zero_le _
  | x :: l, m, nd, h => by
    obtain ⟨s, t, rfl⟩ := List.append_of_mem (h x List.mem_cons_self)
    obtain ⟨n1, n2⟩ := List.nodup_cons.mp nd
    have ih := len_sub (l := l) (m := s ++ t) n2 fun y hy => by
      have := h y (List.mem_cons_of_mem _ hy)
      rcases List.mem_append.mp this with z | z
      · exact List.mem_append_left _ z
      · rcases List.mem_cons.mp z with z | z
        · subst z; exact (n1 hy).elim
        · exact List.mem_append_right _ z
    simp at ih ⊢
    omega
theorem keys_len {a b : List (D × D)} (na : Nd a) (h : ∀ x ∈ a.map (·.1), x ∈ b.map (·.1)) : a.length ≤ b.length := by
  have := len_sub na h
  simpa using this
/-! what stands in those above nought -/
theorem above_so {q : List (D × D)} : ∀ (xs : List D) (acc : List (D × D)), (∀ p ∈ acc, ∃ k i, p.1 = keyD k ∧ p.2 = .int i ∧ 0 < i ∧ dLook q (keyD k) = some (.int i)) → ∀ p ∈ aboveL q xs acc, ∃ k i, p.1 = keyD k ∧ p.2 = .int i ∧ 0 < i ∧ dLook q (keyD k) = some (.int i)
  | [], _, h => h
  | x :: r, acc, h => by
    unfold aboveL
    split
    · rename_i i k e1 e2
      have := keyOf_inv e2
      subst this
      split
      · rename_i hi
        refine above_so r _ fun p hp => ?_
        rcases mem_put (kOf_D k) hp with ⟨a, b⟩ | ⟨a, b⟩
        · exact ⟨k, i, kOf_inl a, b, hi, e1⟩
        · exact h p a
      · exact above_so r acc h
    · exact h
theorem above_co {q : List (D × D)} {k : Key} {i : Int} (e : dLook q (keyD k) = some (.int i)) (hi : 0 < i) : ∀ (xs : List D) (acc : List (D × D)), (∀ x ∈ xs, ∃ k i, x = keyD k ∧ dLook q x = some (.int i)) → (keyD k ∈ xs ∨ look kOf (.inl k) acc = some (.int i)) → look kOf (.inl k) (aboveL q xs acc) = some (.int i)
  | [], acc, _, h => by
    rcases h with h | h
    · cases h
    · exact h
  | x :: r, acc, hx, h => by
    obtain ⟨k', i', rfl, e'⟩ := hx x List.mem_cons_self
    have hx' := fun y hy => hx y (List.mem_cons_of_mem _ hy)
    unfold aboveL
    rw [e', keyOf_D]
    dsimp only
    by_cases z : k' = k
    · subst z
      rw [e] at e'
      cases e'
      rw [if_pos hi]
      exact above_co e hi r _ hx' (.inr (by rw [look_put (kOf_D k'), if_pos rfl]))
    · have h' : keyD k ∈ r ∨ look kOf (.inl k) acc = some (.int i) := by
        rcases h with h | h
        · rcases List.mem_cons.mp h with y | y
          · exact (z (by have := congrArg kOf y; rw [kOf_D, kOf_D] at this; exact (Sum.inl.inj (Option.some.inj this)).symm)).elim
          · exact .inl y
        · exact .inr h
      split
      · refine above_co e hi r _ hx' (h'.imp id fun y => ?_)
        rw [look_put (kOf_D k'), if_neg (fun w => z (Sum.inl.inj w).symm)]
        exact y
      · exact above_co e hi r acc hx' h'
/-! pairs put together -/
theorem merge_key : ∀ {more : List (Key × D)} {acc : List (D × D)} {p : D × D}, p ∈ mergeD acc more → (∃ r ∈ acc, r.1 = p.1) ∨ ∃ q ∈ more, p.1 = keyD q.1
  | [], acc, p, h => .inl ⟨p, h, rfl⟩
  | (k, d) :: more, acc, p, h => by
    rcases merge_key (more := more) (acc := putKs acc (.inl k) (keyD k) d) h with ⟨r, hr, e⟩ | ⟨q, hq, e⟩
    · rcases mem_put (kOf_D k) hr with ⟨a, _⟩ | ⟨a, _⟩
      · exact .inr ⟨(k, d), List.mem_cons_self, by rw [← e]; exact kOf_inl a⟩
      · exact .inl ⟨r, a, e⟩
    · exact .inr ⟨q, List.mem_cons_of_mem _ hq, e⟩
theorem merge_lk {f : Key → D} {k : Key} : ∀ {more : List (Key × D)} {acc : List (D × D)}, (∀ q ∈ more, q.2 = f q.1) → ((∃ q ∈ more, q.1 = k) ∨ look kOf (.inl k) acc = some (f k)) → look kOf (.inl k) (mergeD acc more) = some (f k)
  | [], acc, _, h => by
    rcases h with ⟨q, hq, _⟩ | h
    · cases hq
    · exact h
  | (k', d) :: more, acc, hf, h => by
    have hf' := fun q hq => hf q (List.mem_cons_of_mem _ hq)
    have e : d = f k' := hf (k', d) List.mem_cons_self
    refine merge_lk (more := more) (acc := putKs acc (.inl k') (keyD k') d) hf' ?_
    by_cases z : k' = k
    · subst z
      exact .inr (by rw [look_put (kOf_D k'), if_pos rfl, e])
    · rcases h with ⟨q, hq, hk⟩ | h
      · rcases List.mem_cons.mp hq with y | y
        · subst y; exact (z hk).elim
        · exact .inl ⟨q, y, hk⟩
      · exact .inr (by rw [look_put (kOf_D k'), if_neg (fun w => z (Sum.inl.inj w).symm)]; exact h)
theorem prs_mem : ∀ {us : List D} {p : List (Key × D)}, prs us = some p → ∀ q ∈ p, ∃ c, .tuple c [keyD q.1, q.2] ∈ us
  | [], p, h, q, hq => by cases h; cases hq
  | u :: us, p, h, q, hq => by
    unfold prs at h
    split at h
    · cases h; cases hq
    · rename_i c k v r he
      cases he
      split at h
      · rename_i kk rs e1 e2
        cases h
        rcases List.mem_cons.mp hq with z | z
        · subst z
          exact ⟨c, by rw [← keyOf_inv e1]; exact List.mem_cons_self⟩
        · obtain ⟨c', m⟩ := prs_mem e2 q z
          exact ⟨c', List.mem_cons_of_mem _ m⟩
      · cases h
    · cases h
theorem merge_val : ∀ {more : List (Key × D)} {acc : List (D × D)} {p : D × D}, p ∈ mergeD acc more → p ∈ acc ∨ (∃ r ∈ acc, ∃ q ∈ more, p.2 = q.2) ∨ ∃ q ∈ more, p.2 = q.2
  | [], acc, p, h => .inl h
  | (k, d) :: more, acc, p, h => by
    rcases merge_val (more := more) (acc := putKs acc (.inl k) (keyD k) d) h with h | ⟨r, hr, q, hq, e⟩ | ⟨q, hq, e⟩
    · rcases mem_put (kOf_D k) h with ⟨_, b⟩ | ⟨a, _⟩
      · exact .inr (.inr ⟨(k, d), List.mem_cons_self, b⟩)
      · exact .inl a
    · exact .inr (.inr ⟨q, List.mem_cons_of_mem _ hq, e⟩)
    · exact .inr (.inr ⟨q, List.mem_cons_of_mem _ hq, e⟩)
end K20

namespace K12
open PySem PySem.Spec PyProof.Rows L2 Br Dl K20
def hall_if : MS := (sIf (mTest (mOp oEq (mCall F_law_take 1 (rOwn 0 (rCons (mC (.int 9)) rNil))) (mC (.int 0)))) (sDPop 3 (mTup (aCons (mC (.str "begin")) (aCons (mC (.str "")) aNil)))) sNext)
def hall_door : MS := (sIf (mTest (mOp oEq (mCall F_law_take 1 (rOwn 0 (rCons (mC (.int 2)) rNil))) (mC (.int 0)))) door_put sNext)
theorem hall_eq : b_law_hall = (sSeq2 (sSetO 2 mDNew) (sSeq2 (sSetO 3 mDNew) (sSeq2 begin_put (sSeq2 (sFor (mRng1 (aCons (mCall F_law_take 1 (rOwn 0 (rCons (mC (.int 13)) rNil))) aNil)) (mgName 4) say_body)
    (sSeq2 (sFor (mRng1 (aCons (mCall F_law_take 1 (rOwn 0 (rCons (mC (.int 3)) rNil))) aNil)) (mgName 4) ranks_body) (sSeq2 hall_door (sSeq2 (sFor (mItems dLst (mVar 1)) (mgName 5) seat_body) (sSeq2 say_body (sSeq2 hall_if (sRet2 1 2 3)))))))))) := rfl
theorem seq2_mk {a : MS} {b : M2} {E : D → D → Cs → Prop} {ρ : Cs} (q : a { nx := b E, rt := fun _ _ => False } ρ) : sSeq2 a b E ρ := q
theorem seq2_for {mi : MI} {mg : MG} {bd : MS} {b : M2} {E : D → D → Cs → Prop} {ρ : Cs} (q : mi ρ fun xs ρ1 => sForL mg bd { nx := b E, rt := fun _ _ => False } xs ρ1) : sSeq2 (sFor mi mg bd) b E ρ := q
theorem seq2_setO {i : Nat} {m : ME} {b : M2} {E : D → D → Cs → Prop} {ρ : Cs} (q : m ρ fun d ρ1 => b E (ρ1.set i (.own d))) : sSeq2 (sSetO i m) b E ρ := q
theorem F2of.mk {np m n : Nat} {b : M2} {cs : List Cell} {k : D → D → List Cell → Prop} (hl : cs.length = np) (ho : ∀ (l : Nat) (d : D), cs[l]? = some (Cell.own d) → l < n) (h : b (fun d e ρ' => k d e (ρ'.take n)) (cs ++ List.replicate m .un)) : F2of np m n b cs k := ⟨hl, ho, k, fun _ _ _ z => z, h⟩
theorem hall_if_s {a b d e : Str} {E : D → D → Cs → Prop} {n : Nat} {ps st : List (D × D)} {c x4 x5 x6 : Cell} (p : PL c) (g : HN [a, b, d, e] n ps st) (h : ∀ st' c' r, PL c' → HI [a, b, d, e] ps st' → st'.length ≤ st.length → E (.dict ps) (.dict st') (c' :: r)) :
    sSeq2 hall_if (sRet2 1 2 3) E [c, .fro (fo a b d e), .own (.dict ps), .own (.dict st), x4, x5, x6] := by
  have s2 : 2 ≤ sizeLine := by decide
  refine seq2_mk (test_eq (j := 0) (n := 9) (ρ := [c, .fro (fo a b d e), .own (.dict ps), .own (.dict st), x4, x5, x6]) rfl p (by decide) (by decide) fun b' c1 p1 => ?_)
  obtain ⟨u, v, rfl, pv⟩ := id p1
  have own : ∀ (st : List (D × D)) (l : Nat), l < 1 → ∃ cc, ([.own (.list [.int u, .int v]), .fro (fo a b d e), .own (.dict ps), .own (.dict st), x4, x5, x6] : Cs)[l]? = some (.own cc) := fun st l hl => by
    have : l = 0 := by omega
    subst this
    exact ⟨_, rfl⟩
  cases b'
  · rw [if_neg (by decide)]
    exact ⟨by decide, by decide, by decide, own st, _, _, rfl, rfl, h st _ _ p1 g.i (Nat.le_refl _)⟩
  · rw [if_pos rfl]
    refine ⟨⟨_, rfl⟩, s2, g.b, ?_⟩
    exact ⟨by decide, by decide, by decide, own _, _, _, rfl, rfl, h _ _ _ p1 g.i.drop (List.length_filter_le _ _)⟩
theorem hall_s {a b d e : Str} (f : Fo a b d e) {c : Cell} {k : D → D → List Cell → Prop} (p : PL c) (h : ∀ ps st c', PL c' → HI [a, b, d, e] ps st → ps ≠ [] → ps.length ≤ 95 → st.length ≤ 95 → k (.dict ps) (.dict st) [c']) : F_law_hall [c, .fro (fo a b d e)] k := by
  refine F2of.mk rfl (fun l dd z => ?_) ?_
  · match l, z with
    | 0, _ => exact Nat.zero_lt_one
    | 1, z => cases z
    | n + 2, z => cases z
  rw [hall_eq]
  refine seq2_setO (m := mDNew) (show (sSeq2 (sSetO 3 mDNew) _) _ [c, .fro (fo a b d e), .own (.dict []), .un, .un, .un, .un] from ?_)
  refine seq2_setO (m := mDNew) (show (sSeq2 begin_put _) _ [c, .fro (fo a b d e), .own (.dict []), .own (.dict []), .un, .un, .un] from ?_)
  refine seq2_mk (begin_put_s f p fun ps1 st1 c1 p1 g1 l1 => ?_)
  refine seq2_for (rng_take (j := 0) (n := 13) (ρ := [c1, .fro (fo a b d e), .own (.dict ps1), .own (.dict st1), .un, .un, .un]) rfl p1 (by decide) (by decide) fun t2 c2 t2n p2 => ?_)
  refine say_L f (intsD 0 t2) 1 ps1 .un g1 (by rw [intsD_len]; omega) fun ps3 x4 g3 => ?_
  rw [intsD_len] at g3
  refine seq2_for (rng_take (j := 0) (n := 3) (ρ := [c2, .fro (fo a b d e), .own (.dict ps3), .own (.dict st1), x4, .un, .un]) rfl p2 (by decide) (by decide) fun t4 c4 t4n p4 => ?_)
  refine ranks_L f (intsD 0 t4) (1 + t2) ps3 st1 c4 x4 p4 g3 (by rw [intsD_len]; omega) (by rw [intsD_len]; omega) fun ps5 st5 c5 x4' p5 g5 l5 => ?_
  rw [intsD_len] at g5 l5
  have tail : ∀ n ps st c, PL c → HN [a, b, d, e] n ps st → n < 90 → st.length < 90 → (sSeq2 (sFor (mItems dLst (mVar 1)) (mgName 5) seat_body) (sSeq2 say_body (sSeq2 hall_if (sRet2 1 2 3)))) (fun d e ρ' => k d e (ρ'.take 1)) [c, .fro (fo a b d e), .own (.dict ps), .own (.dict st), x4', .un, .un] := by
    intro n ps st c p g hn hs
    refine seq2_for (mi := mItems dLst (mVar 1)) (show sForL (mgName 5) seat_body _ (([a, b, d, e] : List Str).map .str) _ from ?_)
    refine seats_L f [a, b, d, e] n ps st c .un .un f.zs p g (show n + 4 < 1000 by omega) (show st.length + 4 < 1000 by omega) fun ps6 st6 c6 x5 x6 p6 g6 l6 => ?_
    refine seq2_mk (say_step f g6 (show n + 4 < 1000 by omega) fun ps7 g7 => ?_)
    have e4 : ([a, b, d, e] : List Str).length = 4 := rfl
    exact hall_if_s p6 g7 fun st' c' r p' g' l' => h ps7 st' c' p' g' g7.ne (by have := g7.l; omega) (by omega)
  refine seq2_mk (test_eq (j := 0) (n := 2) (ρ := [c5, .fro (fo a b d e), .own (.dict ps5), .own (.dict st5), x4', .un, .un]) rfl p5 (by decide) (by decide) fun b' c6 p6 => ?_)
  cases b'
  · rw [if_neg (by decide)]
    exact tail _ ps5 st5 c6 p6 g5 (by omega) (by omega)
  · rw [if_pos rfl]
    refine door_put_s f p6 g5 (by omega) (by omega) fun ps7 st7 c7 p7 g7 l7 => ?_
    exact tail _ ps7 st7 c7 p7 g7 (by omega) (by omega)
end K12

namespace K12
open PySem PySem.Spec PyProof.Rows L2 Br Dl K20
theorem look_in {k : Key ⊕ List Key} : ∀ {ps : List (D × D)} {d : D}, look kOf k ps = some d → ∃ p ∈ ps, kOf p.1 = some k ∧ p.2 = d
  | p :: ps, d, h => by
    unfold look at h
    split at h
    · rename_i e
      cases h
      exact ⟨p, List.mem_cons_self, e, rfl⟩
    · obtain ⟨q, hq, r⟩ := look_in h
      exact ⟨q, List.mem_cons_of_mem _ hq, r⟩
/-- who stand among all people: texts out of the people -/
theorem ppl_in {fs : List Str} {ps st : List (D × D)} (g : HI fs ps st) : ∀ p ∈ pplOf (bOf (dOf ps st "ranks" "") .none) (dOf ps st "begin" ""), ∃ z, p.1 = .str z ∧ z ∈ fs := by
  have deed : ∀ {s ab : Str} {c : Tk} {h : Str} {i : Int} {d : D}, dLook ps (.tuple c [.str h, .int i]) = some d → ∃ e t so wh ot to fi fi', d = .tuple e [t, so, .str wh, ot, to, fi, fi'] ∧ wh ∈ fs ∧ Us fs to := fun {s ab c h i d} e => by
    obtain ⟨p, hp, _, rfl⟩ := look_in (show look kOf (.inr [.inr h, .inl i]) ps = some d from e)
    exact g.fk p hp
  intro p hp
  rcases dOf_cases g.toGH "ranks" "" with ⟨e, e1⟩ | ⟨c', hh, i, e', t, so, wh, ot, to, fi, fi', e, e2, e1, hb⟩
  · rw [e1] at hp
    rcases dOf_cases g.toGH "begin" "" with ⟨f, f1⟩ | ⟨c2, hh2, i2, e2', t2, so2, wh2, ot2, to2, fi2, fi2', f, f2, f1, hb2⟩
    · rw [f1] at hp
      cases hp
    · rw [f1] at hp
      have hp' : p ∈ [(D.str wh2, D.int 100)] := hp
      rw [List.mem_singleton.mp hp']
      obtain ⟨_, _, _, w, _, _, _, _, ed, hw, _⟩ := deed (s := "") (ab := "") f2
      cases ed
      exact ⟨_, rfl, hw⟩
  · obtain ⟨c3, us, ws, rfl, ⟨q, ep, hq⟩, hw⟩ := hb.2.1 rfl
    rw [e1] at hp
    have hp' : p ∈ mergeD [] ((prs us).getD []) := hp
    rw [ep] at hp'
    rcases merge_key hp' with ⟨r, hr, _⟩ | ⟨r, hr, er⟩
    · cases hr
    · obtain ⟨cc, hm⟩ := prs_mem ep r hr
      obtain ⟨_, _, _, w, _, _, _, _, ed, _, hu⟩ := deed (s := "") (ab := "") e2
      cases ed
      obtain ⟨c5, z, j, ez, hz⟩ := hu _ _ _ rfl _ hm
      injection ez with _ ez
      injection ez with ez _
      exact ⟨z, by rw [er, ez], hz⟩
end K12

namespace K20
open PySem PySem.Spec PyProof.Rows L2 Br Dl
section
variable {ps st : List (D × D)} (g : GH ps st)
include g
theorem bar_less_s {z w : Str} {K : D → List Cell → Prop} (h : K (if rkOf (bOf (dOf ps st "ranks" "") .none) (dOf ps st "begin" "") z < wtOf (bOf (dOf ps st "ranks" "") .none) w then .str "rank" else .none) []) : F_bar_less [.fro (.dict ps), .fro (.dict st), .fro (.str z), .fro (.str w)] K := by
  refine Fof.mk rfl ?_
  have nn := rk_nn g z
  simp [b_bar_less, ↓sSeq, ↓sSet, mCall, rCons, rNil, mVar, cellsOf, slotsOf]
  refine wanted_in_s g ?_
  generalize wtOf (bOf (dOf ps st "ranks" "") .none) w = wt at *
  simp [putBack, sRet, mIfE, mAnd, mTest, mOp, mVar, mC, oCmp]
  by_cases q0 : 0 < wt
  · simp [q0, mCall, rCons, rNil, mVar, cellsOf, slotsOf]
    refine rank_in_s g ?_
    generalize rkOf (bOf (dOf ps st "ranks" "") .none) (dOf ps st "begin" "") z = rk at *
    by_cases q : rk < wt
    · simp [putBack, oCmp, q] at h ⊢; exact h
    · simp [putBack, oCmp, q] at h ⊢; exact h
  · have q : ¬ rkOf (bOf (dOf ps st "ranks" "") .none) (dOf ps st "begin" "") z < wt := by omega
    simp [q0, q] at h ⊢
    exact h
end
end K20

namespace K20
open PySem PySem.Spec PyProof.Rows L2 Br Dl
theorem house_of_s {z h : Str} (p : Pn z h) {K : D → List Cell → Prop} (q : K (.str h) []) : F_house_of [.fro (.str z)] K := by
  refine Fof.mk rfl ?_
  obtain ⟨⟨a, e⟩, l⟩ := p
  have n1 : ((Str.ofString "@").length == 0) = false := by decide
  have n2 : ((Str.ofString "@").length = 0) = False := by decide
  simp [b_house_of, sRet, mOp, mSplit, mVar, mC, e, l, n1, n2, oIx, atI, ixN]
  exact q
/-- the rules' number, of a begin -/
def ruleOf : D → Int
  | .tuple _ [_, _, _, _, .tuple _ [.int r, _], _, _] => r
  | _ => 0
def firstS : D → Option Str
  | .tuple _ (.str x :: _) => some x
  | _ => none
def lessV (ps st : List (D × D)) (z w : Str) : D := if rkOf (bOf (dOf ps st "ranks" "") .none) (dOf ps st "begin" "") z < wtOf (bOf (dOf ps st "ranks" "") .none) w then .str "rank" else .none
def sOf : D → Str
  | .str x => x
  | _ => ""
def barV (ps st : List (D × D)) (so z h : Str) (co : D) : D :=
  if so = "begin" then (if st = [] then .none else .str "begun")
  else if lkS st "begin" "" = none then .str "unbegun"
  else if sOf (bOf (dOf ps st "seat" z) (.str "out")) = "in" then
    (if so = "strike" ∧ ruleOf (dOf ps st "begin" "") = 2 ∧ firstS co = some h then .none else lessV ps st z so)
  else .str "seat"
section
variable {ps st : List (D × D)} (g : GH ps st)
include g
theorem bar_strike_s {z h x : Str} {c : Tk} {r : List D} (p : Pn z h) (hb : lkS st "begin" "" ≠ none) {K : D → List Cell → Prop}
    (q : K (if ruleOf (dOf ps st "begin" "") = 2 ∧ x = h then .none else lessV ps st z "strike") []) : F_bar_strike [.fro (.dict ps), .fro (.dict st), .fro (.str z), .fro (.tuple c (.str x :: r))] K := by
  refine Fof.mk rfl ?_
  simp [b_bar_strike, ↓sSeq, ↓sSet, mOp, mCall, rCons, rNil, mVar, cellsOf, slotsOf, mC, k_BEGIN_KEY]
  refine body_for_s_ g (b := b_body_for) rfl ?_
  rcases dOf_cases g "begin" "" with ⟨f, f1⟩ | ⟨c2, hh2, i2, e2', t2, so2, wh2, ot2, to2, fi2, fi2', f, f2, f1, hb2⟩
  · exact (hb f).elim
  · obtain ⟨c3, ru, rfl⟩ := hb2.1 rfl
    rw [f1] at q ⊢
    simp [bOf, putBack, oIx, atI, ixN, ↓sIf, ↓mAnd, ↓mTest, mOp, mVar, oEq, mC]
    simp only [ruleOf] at q
    by_cases e1 : ru = 2
    · simp [e1, mCall, rCons, rNil, mVar, cellsOf, slotsOf] at q ⊢
      refine house_of_s p ?_
      by_cases e2 : x = h
      · simp [e2, putBack, sRet, mC] at q ⊢
        exact q
      · simp [e2, putBack, sRet, mC, mCall, rCons, rNil, mVar, cellsOf, slotsOf, sNext] at q ⊢
        exact bar_less_s g (by simpa [putBack, lessV] using q)
    · simp [e1, mCall, rCons, rNil, mVar, cellsOf, slotsOf, sNext, sRet, mC] at q ⊢
      exact bar_less_s g (by simpa [putBack, lessV] using q)
end
end K20

namespace K20
open PySem PySem.Spec PyProof.Rows L2 Br Dl
/-! orders of pairs -/
theorem key_tri {x y : Key} (k : kin x y = true) (h1 : ltKey x y = false) (h2 : ltKey y x = false) : x = y := by
  match x, y, k with
  | .inl a, .inl b, _ =>
    have h1 := of_decide_eq_false h1
    have h2 := of_decide_eq_false h2
    exact congrArg Sum.inl (by omega)
  | .inr a, .inr b, _ =>
    have h1 := of_decide_eq_false h1
    have h2 := of_decide_eq_false h2
    by_cases e : a = b
    · rw [e]
    · exact absurd (txt_tri e h1) h2
theorem lex2_anti {a b c d : Key} (k1 : kin a c = true) (k2 : kin b d = true) (h1 : lexK [a, b] [c, d] = false) (h2 : lexK [c, d] [a, b] = false) : a = c ∧ b = d := by
  by_cases e : a = c
  · subst e
    refine ⟨rfl, ?_⟩
    by_cases e2 : b = d
    · exact e2
    · have h1 : (if a = a then (if b = d then false else ltKey b d) else ltKey a a) = false := h1
      have h2 : (if a = a then (if d = b then false else ltKey d b) else ltKey a a) = false := h2
      rw [if_pos rfl, if_neg e2] at h1
      rw [if_pos rfl, if_neg fun z => e2 z.symm] at h2
      exact key_tri k2 h1 h2
  · have h1 : (if a = c then (if b = d then false else ltKey b d) else ltKey a c) = false := h1
    have h2 : (if c = a then (if d = b then false else ltKey d b) else ltKey c a) = false := h2
    rw [if_neg e] at h1
    rw [if_neg fun z => e z.symm] at h2
    exact absurd (key_tri k1 h1 h2) e
theorem ltT_anti {x y : Str × Str} (h1 : ltT x y = false) (h2 : ltT y x = false) : x = y := by
  obtain ⟨e1, e2⟩ := lex2_anti (a := .inr x.1) (b := .inr x.2) (c := .inr y.1) (d := .inr y.2) rfl rfl h1 h2
  exact Prod.ext (Sum.inr.inj e1) (Sum.inr.inj e2)
theorem ltN_anti {x y : Str × Int} (h1 : ltN x y = false) (h2 : ltN y x = false) : x = y := by
  obtain ⟨e1, e2⟩ := lex2_anti (a := .inr x.1) (b := .inl x.2) (c := .inr y.1) (d := .inl y.2) rfl rfl h1 h2
  exact Prod.ext (Sum.inr.inj e1) (Sum.inl.inj e2)
theorem same_sorted {α : Type} {R : α → α → Prop} : ∀ {us vs : List α}, us.Perm vs → us.Pairwise R → vs.Pairwise R → (∀ a ∈ us, ∀ b ∈ us, R a b → R b a → a = b) → us = vs
  | [], vs, p, _, _, _ => (List.nil_perm.mp p).symm
  | a :: us, [], p, _, _, _ => absurd p.length_eq (by simp)
  | a :: us, b :: vs, p, h1, h2, an => by
    have e : a = b := by
      refine Classical.byContradiction fun ne => ?_
      have mb : b ∈ us := (List.mem_cons.mp (p.mem_iff.mpr List.mem_cons_self)).resolve_left fun z => ne z.symm
      have ma : a ∈ vs := (List.mem_cons.mp (p.mem_iff.mp List.mem_cons_self)).resolve_left ne
      exact ne (an a List.mem_cons_self b (List.mem_cons_of_mem _ mb) ((List.pairwise_cons.mp h1).1 b mb) ((List.pairwise_cons.mp h2).1 a ma))
    subst e
    rw [same_sorted p.cons_inv (List.pairwise_cons.mp h1).2 (List.pairwise_cons.mp h2).2 fun x hx y hy => an x (List.mem_cons_of_mem _ hx) y (List.mem_cons_of_mem _ hy)]
/-- pairs of texts, by their texts alone -/
theorem tt_py : ∀ {us vs : List D}, us.all isTT = true → vs.all isTT = true → us.map ttOf = vs.map ttOf → toPys us = toPys vs
  | [], [], _, _, _ => rfl
  | [], _ :: _, _, _, h => by cases h
  | _ :: _, [], _, _, h => by cases h
  | u :: us, v :: vs, h1, h2, h => by
    rw [List.all_cons, Bool.and_eq_true] at h1 h2
    obtain ⟨c, x, y, rfl, e1⟩ := isTT_at h1.1
    obtain ⟨c', x', y', rfl, e2⟩ := isTT_at h2.1
    injection h with h3 h4
    have h3 : (x, y) = (x', y') := h3
    cases h3
    show PyData.tuple [.str x, .str y] :: toPys us = _
    rw [tt_py h1.2 h2.2 h4]; rfl
theorem tt_lay : ∀ {us : List D}, us.all isTT = true → (∀ u ∈ us, PyData.strOk (ttOf u).1 = true ∧ PyData.strOk (ttOf u).2 = true) → PyData.canLayAll0 (toPys us) = true ∧ PyData.depthAll (toPys us) ≤ 1 ∧ PyData.eqvAll (toPys us) (toPys us) = true
  | [], _, _ => ⟨rfl, Nat.zero_le _, rfl⟩
  | u :: us, h, hs => by
    rw [List.all_cons, Bool.and_eq_true] at h
    obtain ⟨i1, i2, i3⟩ := tt_lay h.2 fun x hx => hs x (List.mem_cons_of_mem _ hx)
    obtain ⟨s1, s2⟩ := hs u List.mem_cons_self
    obtain ⟨c, x, y, rfl, e⟩ := isTT_at h.1
    have s1 : PyData.strOk x = true := s1
    have s2 : PyData.strOk y = true := s2
    refine ⟨?_, ?_, ?_⟩
    · show ((PyData.strOk x && (PyData.strOk y && true)) && PyData.canLayAll0 (toPys us)) = true
      rw [s1, s2, i1]; rfl
    · show max (max 0 (max 0 0) + 1) (PyData.depthAll (toPys us)) ≤ 1
      omega
    · show (PyData.eqv (.tuple [.str x, .str y]) (.tuple [.str x, .str y]) && PyData.eqvAll (toPys us) (toPys us)) = true
      rw [i3]
      simp [PyData.eqv, PyData.eqvAll]
/-- two lists of these, one behind the other in the same order: unequal they are not -/
theorem tt_ne {us vs : List D} (h1 : us.all isTT = true) (h2 : vs.all isTT = true) (e : us.map ttOf = vs.map ttOf) (hs : ∀ u ∈ us, PyData.strOk (ttOf u).1 = true ∧ PyData.strOk (ttOf u).2 = true) {k : D → Prop} (q : k (.bool false)) : oNe (.list us) (.list vs) k := by
  obtain ⟨i1, i2, i3⟩ := tt_lay h1 hs
  have ep := tt_py h1 h2 e
  have s : shp (.list us) := by
    show (PyData.canLayAll0 (toPys us) && decide (PyData.depthAll (toPys us) + 1 ≤ 64)) = true
    rw [i1, decide_eq_true (by omega)]; rfl
  have s2 : shp (.list vs) := by
    show (PyData.canLayAll0 (toPys vs) && decide (PyData.depthAll (toPys vs) + 1 ≤ 64)) = true
    rw [← ep, i1, decide_eq_true (by omega)]; rfl
  refine ⟨s, s2, ?_⟩
  have e3 : eqd (.list us) (.list vs) = true := by
    show PyData.eqvAll (toPys us) (toPys vs) = true
    rw [← ep]; exact i3
  rw [e3]
  exact q
end K20

namespace K20
open PySem PySem.Spec PyProof.Rows L2 Br Dl
/-! the keys on which leave hangs -/
def keysV (so z ab y : Str) : List (Str × Str) := if so = "begin" then [] else ([("begin", ""), ("ranks", ""), ("seat", z)] : List (Str × Str)) ++ (if so = "seat" ∧ ab ≠ z then ([("seat", ab)] : List (Str × Str)) else []) ++ (if so = "seat" ∧ y = "in" then ([("door", "")] : List (Str × Str)) else [])
/-- a list of pairs of texts -/
def KD (ds : List D) (ks : List (Str × Str)) : Prop := ds.all isTT = true ∧ ds.map ttOf = ks
theorem kd_app {ds es : List D} {ks ls : List (Str × Str)} (h : KD ds ks) (g : KD es ls) : KD (ds ++ es) (ks ++ ls) := ⟨by rw [List.all_append, h.1, g.1]; rfl, by rw [List.map_append, h.2, g.2]⟩
theorem kd_one {c : Tk} {x y : Str} : KD [.tuple c [.str x, .str y]] [(x, y)] := ⟨rfl, rfl⟩
theorem keysV_len {so z ab y : Str} : (keysV so z ab y).length ≤ 5 := by
  unfold keysV
  split
  · decide
  · rw [List.length_append, List.length_append]
    split <;> split <;> simp
theorem keysV_nd {so z ab y : Str} : (keysV so z ab y).Nodup := by
  unfold keysV
  split
  · exact List.nodup_nil
  · have b1 : ("begin" : Str) ≠ "ranks" := by decide +kernel
    have b2 : ("begin" : Str) ≠ "seat" := by decide +kernel
    have b3 : ("begin" : Str) ≠ "door" := by decide +kernel
    have b4 : ("ranks" : Str) ≠ "seat" := by decide +kernel
    have b5 : ("ranks" : Str) ≠ "door" := by decide +kernel
    have b6 : ("seat" : Str) ≠ "door" := by decide +kernel
    by_cases h1 : so = "seat" ∧ ab ≠ z
    · have b7 : z ≠ ab := fun e => h1.2 e.symm
      rw [if_pos h1]
      by_cases h2 : so = "seat" ∧ y = "in"
      · rw [if_pos h2]; simp [b1, b2, b3, b4, b5, b6]; exact b7
      · rw [if_neg h2]; simp [b1, b2, b4]; exact b7
    · rw [if_neg h1]
      by_cases h2 : so = "seat" ∧ y = "in"
      · rw [if_pos h2]; simp [b1, b2, b3, b4, b5, b6]
      · rw [if_neg h2]; simp [b1, b2, b4]
theorem eq_s {x y : Str} {k : D → Prop} (q : k (.bool (decide (x = y)))) : oEq (.str x) (.str y) k := q
theorem ne_s {x y : Str} {k : D → Prop} (q : k (.bool (!decide (x = y)))) : oNe (.str x) (.str y) k := q
theorem evt_and_b {t u : MT} {ρ : Cs} {b c : Bool} (h : EvT t ρ b) (g : b = true → EvT u ρ c) (hb : b = false → c = false) : EvT (mAnd t u) ρ c := fun k q => h _ (by
  cases b with
  | true => exact g rfl _ q
  | false => rw [hb rfl] at q; exact q)
theorem seqF_st {a b : MS} {E : Dn} {ρ : Cs} (q : a { nx := b E, rt := fun _ _ => False } ρ) : sSeqF a b E ρ := q
theorem if_evt {t : MT} {a b : MS} {E : Dn} {ρ : Cs} {c : Bool} (h : EvT t ρ c) (q1 : c = true → a E ρ) (q0 : c = false → b E ρ) : sIf t a b E ρ := h _ (by
  cases c with
  | true => exact q1 rfl
  | false => exact q0 rfl)
theorem ifF_evt {t : MT} {a b : MS} {E : Dn} {ρ : Cs} {c : Bool} (h : EvT t ρ c) (q1 : c = true → a E ρ) (q0 : c = false → b E ρ) : sIfF t a b E ρ := h _ (by
  cases c with
  | true => exact q1 rfl
  | false => exact q0 rfl)
theorem app_st {i : Nat} {m : ME} {E : Dn} {ρ : Cs} {d : D} {ds : List D} (e : ρ[i]? = some (.own (.list ds))) (h : Ev m ρ d) (l : ds.length < sizeLine) (q : E.nx (ρ.set i (.own (.list (ds ++ [d]))))) : sAppend i m E ρ := by
  unfold sAppend mOwn
  rw [e]
  refine ⟨⟨_, rfl⟩, h _ ?_⟩
  rw [e]
  exact ⟨l, q⟩
def kf_seat : MS := (sIf (mAnd (mTest (mOp oEq (mVar 0) (mC (.str "seat")))) (mTest (mOp oNe (mVar 2) (mVar 1))))
      (sAppend 4 (mTup (aCons (mC (.str "seat")) (aCons (mVar 2) aNil))))
      sNext)
def kf_door (m : ME) : MS := (sIf (mAnd (mTest (mOp oEq (mVar 0) (mC (.str "seat")))) (mTest (mOp oEq (mVar 3) (mC (.str "in"))))) (sAppend 4 m) sNext)
theorem kf_seat_s {E : Dn} {so z ab : Str} {co : D} {ds : List D} {ks : List (Str × Str)} (h : KD ds ks) (l : ds.length ≤ 10) (q : ∀ es, KD es (ks ++ (if so = "seat" ∧ ab ≠ z then ([("seat", ab)] : List (Str × Str)) else [])) → es.length ≤ 11 → E.nx [.fro (.str so), .fro (.str z), .fro (.str ab), .fro co, .own (.list es)]) :
    kf_seat E [.fro (.str so), .fro (.str z), .fro (.str ab), .fro co, .own (.list ds)] := by
  have s : 1000 ≤ sizeLine := by decide
  refine if_evt (c := decide (so = "seat" ∧ ab ≠ z)) (evt_and_b (b := decide (so = "seat")) (evt_test (ev_op (ev_var rfl) ev_c fun k q => q)) (fun hb => evt_test (ev_op (ev_var rfl) (ev_var rfl) fun k q => ?_)) fun hb => ?_) (fun hc => ?_) fun hc => ?_
  · have e : (!decide (ab = z)) = decide (so = "seat" ∧ ab ≠ z) := by
      have := of_decide_eq_true hb
      by_cases e : ab = z <;> simp [e, this]
    exact ne_s (by rw [e]; exact q)
  · have := of_decide_eq_false hb
    simp [this]
  · have hc := of_decide_eq_true hc
    refine app_st rfl (ev_tup (eva_cons ev_c (eva_cons (ev_var rfl) eva_nil)) (Nat.le_of_ble_eq_true rfl)) (by omega) (q _ ?_ (by rw [List.length_append, List.length_singleton]; omega))
    rw [if_pos hc]
    exact kd_app h kd_one
  · have hc := of_decide_eq_false hc
    refine q ds ?_ (by omega)
    rw [if_neg hc, List.append_nil]
    exact h
theorem kf_door_s {E : Dn} {so z ab y : Str} {co : D} {ds : List D} {ks : List (Str × Str)} {m : ME} {c : Tk} (hm : ∀ ρ, Ev m ρ (.tuple c [.str "door", .str ""])) (hy : so = "seat" → co = .str y) (h : KD ds ks) (l : ds.length ≤ 11) (q : ∀ es, KD es (ks ++ (if so = "seat" ∧ y = "in" then ([("door", "")] : List (Str × Str)) else [])) → es.length ≤ 12 → E.nx [.fro (.str so), .fro (.str z), .fro (.str ab), .fro co, .own (.list es)]) :
    kf_door m E [.fro (.str so), .fro (.str z), .fro (.str ab), .fro co, .own (.list ds)] := by
  have s : 1000 ≤ sizeLine := by decide
  refine if_evt (c := decide (so = "seat" ∧ y = "in")) (evt_and_b (b := decide (so = "seat")) (evt_test (ev_op (ev_var rfl) ev_c fun k q => q)) (fun hb => ?_) fun hb => ?_) (fun hc => ?_) fun hc => ?_
  · have e0 := of_decide_eq_true hb
    have e : decide (y = "in") = decide (so = "seat" ∧ y = "in") := by simp [e0]
    rw [hy e0]
    refine evt_test (ev_op (ev_var rfl) ev_c fun k q => eq_s (by rw [e]; exact q))
  · have := of_decide_eq_false hb
    simp [this]
  · have hc := of_decide_eq_true hc
    refine app_st rfl (hm _) (by omega) (q _ ?_ (by rw [List.length_append, List.length_singleton]; omega))
    rw [if_pos hc]
    exact kd_app h kd_one
  · have hc := of_decide_eq_false hc
    refine q ds ?_ (by omega)
    rw [if_neg hc, List.append_nil]
    exact h
theorem kf_eq : b_keys_for = (sIfF (mTest (mOp oEq (mVar 0) (mC (.str "begin")))) (sRet (mLst aNil)) (sSeqF (sSetO 4 (mLst (aCons (mC k_BEGIN_KEY) (aCons (mC k_RANKS_KEY) (aCons (mTup (aCons (mC (.str "seat")) (aCons (mVar 1) aNil))) aNil))))) (sSeqF kf_seat (sSeqF (kf_door (mC k_DOOR_KEY)) (sRetO 4))))) := rfl
theorem keys_for_s {so z ab y : Str} {co : D} (hy : so = "seat" → co = .str y) {k : D → Prop} (q : ∀ ds, KD ds (keysV so z ab y) → k (.list ds)) : F_keys_for [.str so, .str z, .str ab, co] k := by
  have s : 1000 ≤ sizeLine := by decide
  refine ⟨rfl, k, fun _ h => h, ?_⟩
  rw [kf_eq]
  refine ifF_evt (c := decide (so = "begin")) (evt_test (ev_op (ev_var rfl) ev_c fun k q => q)) (fun hb => ?_) fun hb => ?_
  · have hb := of_decide_eq_true hb
    refine ⟨Nat.zero_le _, q [] ?_⟩
    unfold keysV
    rw [if_pos hb]
    exact ⟨rfl, rfl⟩
  · have hb := of_decide_eq_false hb
    refine seqF_st (show sSetO 4 _ _ _ from (ev_lst (eva_cons ev_c (eva_cons ev_c (eva_cons (ev_tup (eva_cons ev_c (eva_cons (ev_var rfl) eva_nil)) (Nat.le_of_ble_eq_true rfl)) eva_nil))) (Nat.le_of_ble_eq_true rfl)) _ ?_)
    refine (seqF_st (kf_seat_s (ks := [("begin", ""), ("ranks", ""), ("seat", z)]) ⟨rfl, rfl⟩ (show 3 ≤ 10 by omega) fun es ke le => ?_) : (sSeqF kf_seat (sSeqF (kf_door (mC k_DOOR_KEY)) (sRetO 4))) _ [.fro (.str so), .fro (.str z), .fro (.str ab), .fro co, .own (.list [k_BEGIN_KEY, k_RANKS_KEY, .tuple .mad [.str "seat", .str z]])])
    refine seqF_st (kf_door_s (c := .wri) (fun ρ => ev_c) hy ke le fun fs kf lf => ?_)
    refine q fs ?_
    unfold keysV
    rw [if_neg hb]
    exact kf
end K20

namespace K20
open PySem PySem.Spec PyProof.Rows L2 Br Dl
/-! names that give leave -/
theorem look_mem {k : Key ⊕ List Key} : ∀ {ps : List (D × D)} {d : D}, look kOf k ps = some d → ∃ p ∈ ps, kOf p.1 = some k ∧ p.2 = d
  | p :: ps, d, h => by
    unfold look at h
    split at h
    · rename_i e
      cases h
      exact ⟨p, List.mem_cons_self, e, rfl⟩
    · obtain ⟨q, hq, r⟩ := look_mem h
      exact ⟨q, List.mem_cons_of_mem _ hq, r⟩
def nmsK (st : List (D × D)) (ks : List (Str × Str)) : List D := ks.filterMap fun p => lkS st p.1 p.2
theorem in_st {st : List (D × D)} (ts : tups st) {c : Tk} {s ab : Str} {k : D → Prop} (q : k (.bool (lkS st s ab).isSome)) : oIn false (.tuple c [.str s, .str ab]) (.dict st) k := by
  simp [oIn, kof_eq, fits_t ts, lk_eq]
  exact q
theorem ix_st {st : List (D × D)} (ts : tups st) {c : Tk} {s ab : Str} {nm : D} (h : lkS st s ab = some nm) {k : D → Prop} (q : k nm) : oIx (.dict st) (.tuple c [.str s, .str ab]) k := by
  simp [oIx, kof_eq, fits_t ts, lk_eq, h]
  exact q
theorem kd_cons {d : D} {ds : List D} {ks : List (Str × Str)} (h : KD (d :: ds) ks) : ∃ c x y ls, d = .tuple c [.str x, .str y] ∧ ks = (x, y) :: ls ∧ KD ds ls := by
  obtain ⟨h1, h2⟩ := h
  rw [List.all_cons, Bool.and_eq_true] at h1
  obtain ⟨c, x, y, rfl, e⟩ := isTT_at h1.1
  exact ⟨c, x, y, ds.map ttOf, rfl, h2.symm, h1.2, rfl⟩
section
variable {st : List (D × D)} (ts : tups st) (hp : ∀ s ab nm, lkS st s ab = some nm → isPr nm = true)
include ts hp
theorem nc_L {i j : Nat} {S : Cell → Cs} (hs : ∀ a b, (S a).set i b = S b) (hv : ∀ a, (S a)[i]? = some a) (hj : ∀ a, (S a)[j]? = some (.fro (.dict st))) {K : List D → Cs → Prop} : ∀ (ds : List D) (ks : List (Str × Str)) (acc : List D), KD ds ks → acc.length + ds.length ≤ 15 → K (acc ++ nmsK st ks) (S .un) →
    mNcL (mgName i) (mTest (mOp (oIn false) (mVar i) (mVar j))) (mOp oIx (mVar j) (mVar i)) [i] K ds acc (S .un)
  | [], ks, acc, h, _, q => by
    have : ks = [] := h.2.symm
    subst this
    rwa [show nmsK st [] = [] from rfl, List.append_nil] at q
  | d :: ds, ks, acc, h, l, q => by
    obtain ⟨c, x, y, ls, rfl, rfl, h2⟩ := kd_cons h
    rw [List.length_cons] at l
    show mTest (mOp (oIn false) (mVar i) (mVar j)) ((S .un).set i (.fro (.tuple c [.str x, .str y]))) _
    rw [hs]
    have ht : EvT (mTest (mOp (oIn false) (mVar i) (mVar j))) (S (.fro (.tuple c [.str x, .str y]))) (lkS st x y).isSome := evt_test (ev_op (ev_var (hv _)) (ev_var (hj _)) fun k q => in_st ts q)
    refine ht _ ?_
    cases e : lkS st x y with
    | none =>
      have en : nmsK st ((x, y) :: ls) = nmsK st ls := by unfold nmsK; rw [List.filterMap_cons_none (by exact e)]
      rw [en] at q
      show mNcL _ _ _ _ K ds acc ((S _).set i .un)
      rw [hs]
      exact nc_L hs hv hj ds ls acc h2 (by omega) q
    | some nm =>
      have en : nmsK st ((x, y) :: ls) = nm :: nmsK st ls := by unfold nmsK; rw [List.filterMap_cons_some (by exact e)]
      rw [en] at q
      have he : Ev (mOp oIx (mVar j) (mVar i)) (S (.fro (.tuple c [.str x, .str y]))) nm := ev_op (ev_var (hj _)) (ev_var (hv _)) fun k q => ix_st ts e q
      refine he _ ⟨⟨hp _ _ _ e, by omega⟩, ?_⟩
      show mNcL _ _ _ _ K ds (acc ++ [nm]) ((S _).set i .un)
      rw [hs]
      refine nc_L hs hv hj ds ls (acc ++ [nm]) h2 (by rw [List.length_append, List.length_singleton]; omega) ?_
      rw [List.append_assoc]
      exact q
theorem lc_L {i j : Nat} {S : Cell → Cs} (hs : ∀ a b, (S a).set i b = S b) (hv : ∀ a, (S a)[i]? = some a) (hj : ∀ a, (S a)[j]? = some (.fro (.dict st))) {K : List D → Cs → Prop} : ∀ (ds : List D) (ks : List (Str × Str)) (acc : List D), KD ds ks → K (acc ++ nmsK st ks) (S .un) →
    mLcL (mgName i) (mTest (mOp (oIn false) (mVar i) (mVar j))) (mOp oIx (mVar j) (mVar i)) [i] K ds acc (S .un)
  | [], ks, acc, h, q => by
    have : ks = [] := h.2.symm
    subst this
    rwa [show nmsK st [] = [] from rfl, List.append_nil] at q
  | d :: ds, ks, acc, h, q => by
    obtain ⟨c, x, y, ls, rfl, rfl, h2⟩ := kd_cons h
    show mTest (mOp (oIn false) (mVar i) (mVar j)) ((S .un).set i (.fro (.tuple c [.str x, .str y]))) _
    rw [hs]
    have ht : EvT (mTest (mOp (oIn false) (mVar i) (mVar j))) (S (.fro (.tuple c [.str x, .str y]))) (lkS st x y).isSome := evt_test (ev_op (ev_var (hv _)) (ev_var (hj _)) fun k q => in_st ts q)
    refine ht _ ?_
    cases e : lkS st x y with
    | none =>
      have en : nmsK st ((x, y) :: ls) = nmsK st ls := by unfold nmsK; rw [List.filterMap_cons_none (by exact e)]
      rw [en] at q
      show mLcL _ _ _ _ K ds acc ((S _).set i .un)
      rw [hs]
      exact lc_L hs hv hj ds ls acc h2 q
    | some nm =>
      have en : nmsK st ((x, y) :: ls) = nm :: nmsK st ls := by unfold nmsK; rw [List.filterMap_cons_some (by exact e)]
      rw [en] at q
      have he : Ev (mOp oIx (mVar j) (mVar i)) (S (.fro (.tuple c [.str x, .str y]))) nm := ev_op (ev_var (hj _)) (ev_var (hv _)) fun k q => ix_st ts e q
      refine he _ ?_
      show mLcL _ _ _ _ K ds (acc ++ [nm]) ((S _).set i .un)
      rw [hs]
      refine lc_L hs hv hj ds ls (acc ++ [nm]) h2 ?_
      rw [List.append_assoc]
      exact q
theorem leave_for_s {so z ab y : Str} {co : D} (hy : so = "seat" → co = .str y) {k : D → List Cell → Prop} (q : ∀ ds, Dd (nmsK st (keysV so z ab y)) ds → (∀ d ∈ ds, isPr d = true) → ds.Pairwise (fun x y => ltN (prOf y) (prOf x) = false) → k (.tuple .frz ds) []) : F_leave_for [.fro (.dict st), .fro (.str so), .fro (.str z), .fro (.str ab), .fro co] k := by
  refine Fof.mk rfl ?_
  refine (show F_keys_for [.str so, .str z, .str ab, co] _ from keys_for_s hy fun ds kd => ?_)
  have l := keysV_len (so := so) (z := z) (ab := ab) (y := y)
  have ld : ds.length ≤ 5 := by rw [← kd.2, List.length_map] at l; exact l
  show mNcL (mgName 5) (mTest (mOp (oIn false) (mVar 5) (mVar 0))) (mOp oIx (mVar 0) (mVar 5)) [5] _ ds [] [.fro (.dict st), .fro (.str so), .fro (.str z), .fro (.str ab), .fro co, .un]
  refine nc_L (S := fun x => [.fro (.dict st), .fro (.str so), .fro (.str z), .fro (.str ab), .fro co, x]) ts hp (fun _ _ => rfl) (fun _ => rfl) (fun _ => rfl) ds _ [] kd (by rw [List.length_nil]; omega) ?_
  rw [List.nil_append]
  intro es dd ip
  refine ⟨List.all_eq_true.mpr ip, fun fs pm pw => ?_⟩
  refine q fs ⟨fun d m => dd.1 d (pm.mem_iff.mp m), fun d m => (pm.map prOf).mem_iff.mpr (dd.2.1 d m), (pm.map prOf).nodup_iff.mpr dd.2.2⟩ (fun d m => ip d (pm.mem_iff.mp m)) pw
end
/-- all that was put in, each once, sorted: the sorted ones, where these are unlike -/
theorem dd_same {acc ds ts : List D} (dd : Dd acc ds) (nd : (acc.map prOf).Nodup) (ip : ∀ d ∈ acc, isPr d = true) (pw : ds.Pairwise (fun x y => ltN (prOf y) (prOf x) = false)) (pt : ts.Perm acc) (pu : ts.Pairwise (fun x y => ltN (prOf y) (prOf x) = false)) : ds = ts := by
  obtain ⟨d1, d2, d3⟩ := dd
  have inj : ∀ a ∈ acc, ∀ b ∈ acc, prOf a = prOf b → a = b := by
    clear d1 d2 d3 pt
    induction acc with
    | nil => intro a h; cases h
    | cons x acc ih =>
      rw [List.map_cons, List.nodup_cons] at nd
      intro a ha b hb e
      rcases List.mem_cons.mp ha with ea | ma
      · rcases List.mem_cons.mp hb with eb | mb
        · rw [ea, eb]
        · exact absurd (List.mem_map.mpr ⟨b, mb, by rw [← e, ea]⟩) nd.1
      · rcases List.mem_cons.mp hb with eb | mb
        · exact absurd (List.mem_map.mpr ⟨a, ma, by rw [e, eb]⟩) nd.1
        · exact ih nd.2 (fun d m => ip d (List.mem_cons_of_mem _ m)) a ma b mb e
  have nds : ds.Nodup := List.Pairwise.of_map prOf (fun _ _ ne e => ne (congrArg prOf e)) d3
  have nda : acc.Nodup := List.Pairwise.of_map prOf (fun _ _ ne e => ne (congrArg prOf e)) nd
  have pm : ds.Perm acc := (List.perm_ext_iff_of_nodup nds nda).mpr fun d => ⟨d1 d, fun m => by
    obtain ⟨d', hd, e⟩ := List.mem_map.mp (d2 d m)
    rw [← inj d' (d1 d' hd) d m e]
    exact hd⟩
  refine same_sorted (pm.trans pt.symm) pw pu fun a ha b hb h1 h2 => inj a (d1 a ha) b (d1 b hb) (ltN_anti h2 h1)
section
variable {fs : List Str} {ps st : List (D × D)} (g : HI fs ps st)
include g
theorem hi_pr : ∀ s ab nm, lkS st s ab = some nm → isPr nm = true := fun s ab nm e => by
  obtain ⟨c, h, i, _, _, _, _, _, _, _, _, rfl, _⟩ := g.at_ s ab nm e
  rfl
theorem hi_inj {s ab s' ab' : Str} {n m : D} (h1 : lkS st s ab = some n) (h2 : lkS st s' ab' = some m) (e : prOf n = prOf m) : (s, ab) = (s', ab') := by
  obtain ⟨c, h, i, e1, t, so, wh, ot, to, fi, fi', rfl, l1, _⟩ := g.at_ s ab n h1
  obtain ⟨c', h', i', e1', t', so', wh', ot', to', fj, fj', rfl, l2, _⟩ := g.at_ s' ab' m h2
  have e : (h, i) = (h', i') := e
  cases e
  have k1 := g.ky _ _ _ _ h1 l1
  have l3 : dLook ps (.tuple c [.str h, .int i]) = dLook ps (.tuple c' [.str h, .int i]) := rfl
  rw [l3, l2] at l1
  have k2 := g.ky _ _ _ _ h2 l2
  obtain ⟨_, _, _, _, _, _, k1⟩ := k1
  obtain ⟨_, _, _, _, _, _, k2⟩ := k2
  rw [← Option.some.inj l1, k2] at k1
  cases k1
  rfl
theorem nms_nd : ∀ {ks : List (Str × Str)}, ks.Nodup → ((nmsK st ks).map prOf).Nodup
  | [], _ => List.nodup_nil
  | (x, y) :: ks, nd => by
    obtain ⟨n1, n2⟩ := List.nodup_cons.mp nd
    have ih := nms_nd n2
    cases e : lkS st x y with
    | none =>
      have en : nmsK st ((x, y) :: ks) = nmsK st ks := by unfold nmsK; rw [List.filterMap_cons_none (by exact e)]
      rw [en]; exact ih
    | some nm =>
      have en : nmsK st ((x, y) :: ks) = nm :: nmsK st ks := by unfold nmsK; rw [List.filterMap_cons_some (by exact e)]
      rw [en, List.map_cons]
      refine List.nodup_cons.mpr ⟨fun m => n1 ?_, ih⟩
      obtain ⟨m', hm, e2⟩ := List.mem_map.mp m
      obtain ⟨p, hp, e3⟩ := List.mem_filterMap.mp hm
      have := hi_inj g e e3 e2.symm
      rw [this]
      exact hp
theorem nms_pr {ks : List (Str × Str)} : ∀ d ∈ nmsK st ks, isPr d = true ∧ Wl 1 300 d := fun d m => by
  obtain ⟨p, _, e⟩ := List.mem_filterMap.mp m
  refine ⟨hi_pr g _ _ _ e, ?_⟩
  obtain ⟨q, hq, _, rfl⟩ := look_mem (show look kOf (.inr [.inr p.1, .inr p.2]) st = some d from e)
  exact (g.ss q hq).2.2
end
theorem pr_nodict : ∀ {ds : List D}, (∀ d ∈ ds, isPr d = true) → PyData.hasDictAll (toPys ds) = false
  | [], _ => rfl
  | d :: ds, h => by
    obtain ⟨c, x, i, rfl, _⟩ := isPr_at (h d List.mem_cons_self)
    show ((false || (false || false)) || PyData.hasDictAll (toPys ds)) = false
    rw [pr_nodict fun x hx => h x (List.mem_cons_of_mem _ hx)]; rfl
theorem repr_nms {c : Tk} {ds : List D} (h : ∀ d ∈ ds, isPr d = true ∧ Wl 1 300 d) (l : ds.length ≤ 10) {k : D → Prop} (q : k (.str (toPy (.tuple c ds)).shown)) : oRepr (.tuple c ds) k := by
  have w : Wl 3 (10 * 301) (.tuple c ds) := (wl_tup (wls_all fun d m => (h d m).2)).mono (by omega) (Nat.mul_le_mul l (Nat.le_refl 301))
  refine ⟨w.sh, pr_nodict fun d m => (h d m).1, Nat.le_trans w.dp (by omega), ?_, q⟩
  refine PyData.shown_fits_bulk (B := 13) (by decide) (by decide) w.le (Nat.le_trans w.bk ?_)
  decide
end K20

namespace K12
open PySem PySem.Spec PyProof.Rows L2 Br Dl K20
theorem strOk_of {z : Str} (h : ∀ c ∈ z.cps.toList, c < 128) : PyData.strOk z = true := by
  unfold PyData.strOk
  rw [← Array.all_toList]
  exact List.all_eq_true.mpr fun c hc => decide_eq_true (Nat.lt_trans (h c hc) (by decide))
theorem Pd.ok {z : Str} (p : Pd z) : PyData.strOk z = true := by
  obtain ⟨w, h, a, b, _, _, rfl⟩ := p
  refine strOk_of fun c hc => ?_
  have e : (w ++ "@" ++ h).cps.toList = (w.cps.toList ++ ("@" : Str).cps.toList) ++ h.cps.toList := by
    rw [show (w ++ "@" ++ h).cps.toList = (w ++ "@").cps.toList ++ h.cps.toList from Array.toList_append, show (w ++ "@" : Str).cps.toList = w.cps.toList ++ ("@" : Str).cps.toList from Array.toList_append]
  rw [e] at hc
  rcases List.mem_append.mp hc with hc | hc
  · rcases List.mem_append.mp hc with hc | hc
    · have := a c hc; omega
    · have : c = 64 := List.mem_singleton.mp hc
      omega
  · have := b c hc; omega
end K12

namespace K20
open PySem PySem.Spec PyProof.Rows L2 Br Dl
/-! ranks that bar: the program -/
theorem evt_or' {t u : MT} {ρ : Cs} {b c : Bool} (h : EvT t ρ b) (g : EvT u ρ c) : EvT (mOr t u) ρ (b || c) := fun k q => h _ (by
  cases b with
  | true => exact q
  | false => exact g _ q)
theorem evt_and' {t u : MT} {ρ : Cs} {b c : Bool} (h : EvT t ρ b) (g : EvT u ρ c) : EvT (mAnd t u) ρ (b && c) := fun k q => h _ (by
  cases b with
  | true => exact g _ q
  | false => exact q)
theorem ifb_s {t : MT} {a b : MS} {E : Dn} {ρ : Cs} {c : Bool} (h : EvT t ρ c) (q1 : c = true → a E ρ) (q0 : c = false → b E ρ) : sIf t a b E ρ := h _ (by
  cases c with
  | true => exact q1 rfl
  | false => exact q0 rfl)
theorem ev_get2 {md mk mx : ME} {ρ : Cs} {ps : List (D × D)} {dk x r : D} (h : Ev md ρ (.dict ps)) (g : Ev mk ρ dk) (e : Ev mx ρ x) (hk : (kOf dk).isSome = true) (hf : fits ps dk = true) (hr : (dLook ps dk).getD x = r) : Ev (mGet2 md mk mx) ρ r := fun k q => h _ (g _ (e _ ⟨hk, hf, by rw [hr]; exact q⟩))
/-- the first of some texts that is so -/
theorem any_L {i : Nat} {bd : MS} {E : Dn} {T : Str → Bool} {d0 : D} {α : Type} (S : Cell → α → Cs) (s1 : ∀ x x' y, (S x y).set i x' = S x' y) (hb : ∀ z y (E' : Dn), (T z = true → ∀ ρ, E'.rt d0 ρ) → (T z = false → ∀ y', E'.nx (S (.fro (.str z)) y')) → bd E' (S (.fro (.str z)) y)) :
    ∀ (zs : List Str) (x : Cell) (y : α), (zs.any T = true → ∀ ρ, E.rt d0 ρ) → (zs.any T = false → ∀ x y, E.nx (S x y)) → sForL (mgName i) bd E (zs.map .str) (S x y)
  | [], x, y, _, h => h rfl x y
  | z :: zs, x, y, ht, hf => by
    show bd { E with nx := sForL (mgName i) bd E (zs.map .str), ct := sForL (mgName i) bd E (zs.map .str), bk := E.nx } ((S x y).set i (.fro (.str z)))
    rw [s1]
    refine hb z y _ (fun h ρ => ht (by rw [List.any_cons, h]; rfl) ρ) fun h y' => ?_
    exact any_L S s1 hb zs _ y' (fun g ρ => ht (by rw [List.any_cons, g, Bool.or_true]) ρ) fun g x y => hf (by rw [List.any_cons, h, g]; rfl) x y
def chg (x y o : Int) : Bool := decide (x ≠ y) && decide (o < (if y > x then y else x))
theorem changes_s {x y o : Int} {K : D → List Cell → Prop} (h : K (.bool (chg x y o)) []) : F_changes_above [.fro (.int x), .fro (.int y), .fro (.int o)] K := by
  refine Fof.mk rfl ?_
  unfold chg at h
  by_cases q : x = y
  · simp [q] at h
    simp [b_changes_above, sRet, mAndV, mOp, mVar, oNe, q]
    exact h
  · simp [q] at h
    simp [b_changes_above, sRet, mAndV, mOp, mVar, oNe, q, mOn, aCons, aNil, oMax, oCmp]
    exact h
theorem takes_s {x y o : Int} {K : D → List Cell → Prop} (h : K (.bool (decide (x ≠ y) && decide (x = o))) []) : F_takes_from_equal [.fro (.int x), .fro (.int y), .fro (.int o)] K := by
  refine Fof.mk rfl ?_
  by_cases q : x = y
  · simp [q] at h
    simp [b_takes_from_equal, sRet, mAndV, mOp, mVar, oNe, q]
    exact h
  · simp [q] at h
    simp [b_takes_from_equal, sRet, mAndV, mOp, mVar, oNe, oEq, q]
    exact h
/-- rows of texts and numbers -/
def rowsT (us : List D) : Prop := ∀ u ∈ us, ∃ c z i, u = .tuple c [.str z, .int i] ∧ 0 ≤ i
theorem rowsT.nums {us : List D} (h : rowsT us) : numsD us := by
  induction us with
  | nil => exact ⟨[], rfl, fun _ z => nomatch z⟩
  | cons u us ih =>
    obtain ⟨c, z, i, rfl, i0⟩ := h u List.mem_cons_self
    obtain ⟨p, e, hp⟩ := ih fun v hv => h v (List.mem_cons_of_mem _ hv)
    refine ⟨(.inr z, .int i) :: p, ?_, fun q hq => ?_⟩
    · show (match Dl.keyOf (.str z), prs us with | some q, some rs => some ((q, D.int i) :: rs) | _, _ => none) = _
      rw [e]; rfl
    · rcases List.mem_cons.mp hq with rfl | hq
      · exact ⟨i, rfl, i0⟩
      · exact hp q hq
/-- the names of rows -/
def nmR (us : List D) : List Str := us.filterMap fun u => match u with | .tuple _ [.str z, _] => some z | _ => none
theorem nmR_prs : ∀ {us : List D}, rowsT us → ∃ p, prs us = some p ∧ p.map (fun q => q.1) = (nmR us).map Sum.inr
  | [], _ => ⟨[], rfl, rfl⟩
  | u :: us, h => by
    obtain ⟨c, z, i, rfl, _⟩ := h u List.mem_cons_self
    obtain ⟨p, e1, e2⟩ := nmR_prs (us := us) fun v hv => h v (List.mem_cons_of_mem _ hv)
    refine ⟨(.inr z, .int i) :: p, ?_, ?_⟩
    · show (match Dl.keyOf (.str z), prs us with | some q, some rs => some ((q, D.int i) :: rs) | _, _ => none) = _
      rw [e1]; rfl
    · rw [List.map_cons, e2]; rfl
theorem strs_of {q : List (D × D)} (h : ∀ p ∈ q, ∃ z, p.1 = .str z) : ∃ zs : List Str, q.map (·.1) = zs.map .str := by
  induction q with
  | nil => exact ⟨[], rfl⟩
  | cons p q ih =>
    obtain ⟨z, e⟩ := h p List.mem_cons_self
    obtain ⟨zs, e2⟩ := ih fun x hx => h x (List.mem_cons_of_mem _ hx)
    exact ⟨z :: zs, by rw [List.map_cons, e, e2]; rfl⟩
theorem strs_flat {q : List (D × D)} (h : ∀ p ∈ q, ∃ z, p.1 = .str z) : (q.all fun p => !isTupD p.1) = true := List.all_eq_true.mpr fun p hp => by
  obtain ⟨z, e⟩ := h p hp
  rw [e]; rfl
/-- one rank that bars -/
def rkT (R B : D) (us : List D) (z : Str) (own : Int) (p : Str) : Bool := chg (rkOf R B p) (numOf us p 0) own || (!decide (p = z) && (decide (rkOf R B p ≠ numOf us p 0) && decide (rkOf R B p = own)))
def wdT (R : D) (ws : List D) (own : Int) (w : Str) : Bool := chg (wtOf R w) (numOf ws w (freeW w)) own
theorem wanted_by_s {c : Tk} {us ws : List D} {w : Str} (hw : numsU ws) {K : D → List Cell → Prop} (h : K (.int (numOf ws w (freeW w))) []) : F_wanted_by [.fro (.tuple c [.tuple .frz us, .tuple .frz ws]), .fro (.str w)] K := by
  have fw : memD (.str w) [.str "call", .str "say"] = decide (w = "call" ∨ w = "say") := by
    simp [memD, toV, eqV, beqS]
  refine Fof.mk rfl ?_
  rw [num_first hw] at h
  simp [b_wanted_by, ↓sSeq, ↓sFor, mItems, mOp, mVar, mC, oIx, atI, ixN, dTup]
  refine rows_walk ws .un .un hw.2.1 (fun i hi ρ => ?_) (fun hn c2 c3 => ?_)
  · rw [hi] at h
    exact h
  · rw [hn] at h
    have h : K (.int (freeW w)) [] := h
    unfold freeW at h
    by_cases q : w = "call" ∨ w = "say"
    · simp [sRet, mIfE, mTest, mOp, mVar, mC, oIn, k_FREE_WORDS, flatD, fw, q]
      simpa [q] using h
    · simp [sRet, mIfE, mTest, mOp, mVar, mC, oIn, k_FREE_WORDS, flatD, fw, q]
      simpa [q] using h
def pers_body : MS := (sSeq (sSet 8 (mTup (aCons (mGet2 (mVar 4) (mVar 7) (mC (.int 0))) (aCons (mGet2 (mVar 5) (mVar 7) (mC (.int 0))) aNil))))
    (sIf (mOr (mTest (mCall F_changes_above 0 (rStar (mVar 8) (rCons (mVar 6) rNil)))) (mAnd (mTest (mOp oNe (mVar 7) (mVar 2))) (mTest (mCall F_takes_from_equal 0 (rStar (mVar 8) (rCons (mVar 6) rNil))))))
      (sRet (mC (.str "above")))
      sNext))
def word_body : MS := (sIf (mTest (mCall F_changes_above 0 (rCons (mCall F_wanted_in 0 (rCons (mVar 0) (rCons (mVar 1) (rCons (mVar 9) rNil)))) (rCons (mCall F_wanted_by 0 (rCons (mVar 3) (rCons (mVar 9) rNil))) (rCons (mVar 6) rNil)))))
      (sRet (mC (.str "above")))
      sNext)
def br_tail : MS := (sSeq (sFor (mItems dTup (mC k_WORDS)) (mgName 9) word_body) (sRet (mC .none)))
def br_mid : MS := (sSeq (sFor (mItems dLst (mLst (aStarD (mVar 4) (aStarD (mVar 5) aNil)))) (mgName 7) pers_body) br_tail)
theorem br_eq : b_bar_ranks = (sSeq (sIf (mTest (mOp (oIsN true) (mCall F_bar_less 0 (rCons (mVar 0) (rCons (mVar 1) (rCons (mVar 2) (rCons (mC (.str "ranks")) rNil))))) (mC .none)))
      (sRet (mC (.str "rank")))
      sNext)
    (sSeq (sSet 4 (mCall F_people_in 0 (rCons (mVar 0) (rCons (mVar 1) rNil)))) (sSeq (sSet 5 (mCall F_people_by 0 (rCons (mVar 3) rNil))) (sSeq (sSet 6 (mGet2 (mVar 4) (mVar 2) (mC (.int 0)))) br_mid)))) := rfl
theorem ev_call4 {F : Fs} {ma mb mc md : ME} {ρ : Cs} {a b c e d : D} (h : Ev ma ρ a) (g : Ev mb ρ b) (f : Ev mc ρ c) (j : Ev md ρ e) (hF : ∀ k : D → List Cell → Prop, k d [] → F [.fro a, .fro b, .fro c, .fro e] k) : Ev (mCall F 0 (rCons ma (rCons mb (rCons mc (rCons md rNil))))) ρ d := fun k q => h _ (g _ (f _ (j _ ⟨List.nodup_nil, rfl, hF _ q⟩)))
theorem ev_star {F : Fs} {ma mb : ME} {ρ : Cs} {c : Tk} {x y b d : D} (h : Ev ma ρ (.tuple c [x, y])) (g : Ev mb ρ b) (hF : ∀ k : D → List Cell → Prop, k d [] → F [.fro x, .fro y, .fro b] k) : Ev (mCall F 0 (rStar ma (rCons mb rNil))) ρ d := fun k q => h _ (g _ ⟨List.nodup_nil, rfl, hF _ q⟩)
end K20

namespace K20
open PySem PySem.Spec PyProof.Rows L2 Br Dl
/-! the eight words, and what bars a ranks deed -/
def wL : List Str := ["bar", "call", "door", "move", "out", "ranks", "say", "strike"]
theorem wL_eq : k_WORDS = .tuple .wri (wL.map .str) := rfl
/-- what bars a ranks deed, asked of some people -/
def ranksV (R B : D) (z : Str) (us ws : List D) (zs : List Str) : D :=
  if rkOf R B z < wtOf R "ranks" then .str "rank"
  else if zs.any (rkT R B us z (rkOf R B z)) = true then .str "above"
  else if wL.any (wdT R ws (rkOf R B z)) = true then .str "above"
  else .none
theorem keys_str {us : List D} (h : rowsT us) : ∀ p ∈ mergeD [] ((prs us).getD []), ∃ z, p.1 = .str z := fun p hp => by
  obtain ⟨q, e, em⟩ := nmR_prs h
  rw [e] at hp
  rcases merge_key hp with ⟨r, hr, _⟩ | ⟨r, hr, er⟩
  · cases hr
  · have : r.1 ∈ (nmR us).map Sum.inr := by rw [← em]; exact List.mem_map.mpr ⟨r, hr, rfl⟩
    obtain ⟨z, _, ez⟩ := List.mem_map.mp this
    refine ⟨z, ?_⟩
    rw [er, ← ez]; rfl
theorem set_call {i : Nat} {F : Fs} {m : MR} {b : MS} {E : Dn} {ρ : Cs} (q : mCall F 0 m ρ fun d ρ1 => b E (ρ1.set i (.fro d))) : sSeq (sSet i (mCall F 0 m)) b E ρ := q
theorem w8 {k : List D → Cs → Prop} {ρ : Cs} (q : k (wL.map .str) ρ) : mItems dTup (mC k_WORDS) ρ k := q
theorem words_s {R : D} {us ws : List D} {own : Int} {c : Tk} {c2 c4 c5 x y : Cell} {E : Dn} (hw : numsU ws) (ps st : D)
    (wi : ∀ (w : Str) (k : D → List Cell → Prop), k (.int (wtOf R w)) [] → F_wanted_in [.fro ps, .fro st, .fro (.str w)] k)
    (h1 : wL.any (wdT R ws own) = true → ∀ ρ, E.rt (.str "above") ρ) (h0 : wL.any (wdT R ws own) = false → ∀ ρ, E.rt .none ρ) :
    br_tail E [.fro ps, .fro st, c2, .fro (.tuple c [.tuple .frz us, .tuple .frz ws]), c4, c5, .fro (.int own), x, y, .un] := by
  unfold br_tail
  refine seq_for (w8 ?_)
  refine any_L (i := 9) (bd := word_body) (T := wdT R ws own) (d0 := .str "above") (fun w (_ : Unit) => [.fro ps, .fro st, c2, .fro (.tuple c [.tuple .frz us, .tuple .frz ws]), c4, c5, .fro (.int own), x, y, w]) (fun _ _ _ => rfl) (fun w y' E' ht hf => ?_) wL .un () (fun hh ρ => h1 hh ρ) fun hh w y' => ?_
  · exact ifb_s (c := wdT R ws own w) (evt_test (ev_call3 (d := .bool (wdT R ws own w)) (ev_call3 (d := .int (wtOf R w)) (ev_var rfl) (ev_var rfl) (ev_var rfl) fun k q => wi w k q) (ev_call2 (d := .int (numOf ws w (freeW w))) (ev_var rfl) (ev_var rfl) fun k q => wanted_by_s hw q) (ev_var (d := .int own) rfl) fun k q => changes_s q)) (fun hc => ht hc _) (fun hc => hf hc ())
  · exact h0 hh _
section
variable {ps st : List (D × D)} (g : GH ps st)
include g
theorem bar_ranks_s {z : Str} {c : Tk} {us ws : List D} {zs1 zs2 : List Str} (hu : rowsT us) (hw : numsU ws)
    (h1 : (pplOf (bOf (dOf ps st "ranks" "") .none) (dOf ps st "begin" "")).map (·.1) = zs1.map .str)
    (h2 : (mergeD [] ((prs us).getD [])).map (·.1) = zs2.map .str) (hl : zs1.length + zs2.length ≤ 100000)
    {K : D → List Cell → Prop} (h : K (ranksV (bOf (dOf ps st "ranks" "") .none) (dOf ps st "begin" "") z us ws (zs1 ++ zs2)) []) :
    F_bar_ranks [.fro (.dict ps), .fro (.dict st), .fro (.str z), .fro (.tuple c [.tuple .frz us, .tuple .frz ws])] K := by
  refine Fof.mk rfl ?_
  rw [br_eq]
  have less : Ev (mCall F_bar_less 0 (rCons (mVar 0) (rCons (mVar 1) (rCons (mVar 2) (rCons (mC (.str "ranks")) rNil))))) ([.fro (.dict ps), .fro (.dict st), .fro (.str z), .fro (.tuple c [.tuple .frz us, .tuple .frz ws])] ++ List.replicate 6 .un) (if rkOf (bOf (dOf ps st "ranks" "") .none) (dOf ps st "begin" "") z < wtOf (bOf (dOf ps st "ranks" "") .none) "ranks" then .str "rank" else .none) :=
    ev_call4 (ev_var rfl) (ev_var rfl) (ev_var rfl) ev_c fun k q => bar_less_s g q
  have pp : ∀ k : D → List Cell → Prop, k (.dict (pplOf (bOf (dOf ps st "ranks" "") .none) (dOf ps st "begin" ""))) [] → F_people_in [.fro (.dict ps), .fro (.dict st)] k := fun k q => people_in_s g q
  have pg := ppl_get g
  have wi : ∀ (w : Str) (k : D → List Cell → Prop), k (.int (wtOf (bOf (dOf ps st "ranks" "") .none) w)) [] → F_wanted_in [.fro (.dict ps), .fro (.dict st), .fro (.str w)] k := fun w k q => wanted_in_s g q
  generalize eR : bOf (dOf ps st "ranks" "") .none = R at *
  generalize eB : dOf ps st "begin" "" = B at *
  unfold ranksV at h
  by_cases q : rkOf R B z < wtOf R "ranks"
  · rw [if_pos q] at less h
    refine if1_st (evt_test (ev_op less ev_c fun k h => h)) ?_
    exact h
  · rw [if_neg q] at less h
    refine if0_st (evt_test (ev_op less ev_c fun k h => h)) ?_
    refine set_ev (d := .dict (pplOf R B)) (ev_call2 (ev_var rfl) (ev_var rfl) pp) ?_
    refine set_ev (d := .dict (mergeD [] ((prs us).getD []))) (ev_call1 (ev_var rfl) fun k q => ?_) ?_
    · refine Fof.mk rfl ?_
      obtain ⟨p, e, _⟩ := hu.nums
      have e1 : oIx (.tuple c [.tuple .frz us, .tuple .frz ws]) (.int 0) = fun k => k (.tuple .frz us) := rfl
      show oIx (.tuple c [.tuple .frz us, .tuple .frz ws]) (.int 0) fun d => oDict_pairs d fun d => k d []
      rw [e1]
      show oDict_pairs (.tuple .frz us) fun d => k d []
      have e2 : oDict_pairs (.tuple .frz us) (fun d => k d []) = match prs us with | some p => k (.dict (mergeD [] p)) [] | none => False := rfl
      rw [e2]
      rw [e] at q ⊢
      exact q
    refine set_ev (d := .int (rkOf R B z)) (ev_get2 (ev_var rfl) (ev_var rfl) ev_c rfl (pg z).1 (pg z).2) ?_
    have s : 100000 ≤ sizeLine := by decide
    have f1 : ((pplOf R B).all fun p => !isTupD p.1) = true := List.all_eq_true.mpr fun p hp => by
      have : p.1 ∈ zs1.map D.str := by rw [← h1]; exact List.mem_map.mpr ⟨p, hp, rfl⟩
      obtain ⟨y, _, e⟩ := List.mem_map.mp this
      rw [← e]; rfl
    have f2 : ((mergeD [] ((prs us).getD [])).all fun p => !isTupD p.1) = true := List.all_eq_true.mpr fun p hp => by
      have : p.1 ∈ zs2.map D.str := by rw [← h2]; exact List.mem_map.mpr ⟨p, hp, rfl⟩
      obtain ⟨y, _, e⟩ := List.mem_map.mp this
      rw [← e]; rfl
    have el : (pplOf R B).map (·.1) ++ ((mergeD [] ((prs us).getD [])).map (·.1) ++ []) = (zs1 ++ zs2).map .str := by rw [h1, h2, List.append_nil, List.map_append]
    obtain ⟨p, ep, _⟩ := id hu.nums
    have gg : ∀ y, fits (mergeD [] ((prs us).getD [])) (.str y) = true ∧ (dLook (mergeD [] ((prs us).getD [])) (.str y)).getD (.int 0) = .int (numOf us y 0) := fun y => by
      obtain ⟨p', e', e2, e3⟩ := num_get hu.nums y 0
      rw [e']; exact ⟨e2, e3⟩
    generalize hA : pplOf R B = A at *
    generalize hM : mergeD [] ((prs us).getD []) = M at *
    refine (?_ : br_mid _ [.fro (.dict ps), .fro (.dict st), .fro (.str z), .fro (.tuple c [.tuple .frz us, .tuple .frz ws]), .fro (.dict A), .fro (.dict M), .fro (.int (rkOf R B z)), .un, .un, .un])
    have it : ∀ (k : List D → Cs → Prop) (ρ : Cs), ρ[4]? = some (.fro (.dict A)) → ρ[5]? = some (.fro (.dict M)) → k ((zs1 ++ zs2).map .str) ρ → mItems dLst (mLst (aStarD (mVar 4) (aStarD (mVar 5) aNil))) ρ k := fun k ρ e4 e5 q => by
      simp only [mItems, mLst, aStarD, mVar, aNil, dLst, e4, e5]
      refine ⟨f1, f2, ?_⟩
      refine (⟨?_, ?_⟩ : (A.map (fun x : D × D => x.1) ++ (M.map (fun x : D × D => x.1) ++ [])).length ≤ sizeLine ∧ k (A.map (fun x : D × D => x.1) ++ (M.map (fun x : D × D => x.1) ++ [])) ρ)
      · rw [el, List.length_map, List.length_append]; omega
      · rw [el]; exact q
    refine seq_for (it _ _ rfl rfl ?_)
    generalize hown : rkOf R B z = own at *
    refine any_L (i := 7) (bd := pers_body) (T := rkT R B us z own) (d0 := .str "above") (fun x (y : Cell) => [.fro (.dict ps), .fro (.dict st), .fro (.str z), .fro (.tuple c [.tuple .frz us, .tuple .frz ws]), .fro (.dict A), .fro (.dict M), .fro (.int own), x, y, .un]) (fun _ _ _ => rfl) (fun p y E' ht hf => ?_) (zs1 ++ zs2) .un .un (fun hh ρ => by rw [if_pos hh] at h; exact h) fun hh x y => ?_
    · refine set_ev (d := .tuple .mad [.int (rkOf R B p), .int (numOf us p 0)]) (ev_tup (eva_cons (ev_get2 (ev_var rfl) (ev_var rfl) ev_c rfl (pg p).1 (pg p).2) (eva_cons (ev_get2 (ev_var rfl) (ev_var rfl) ev_c rfl (gg p).1 (gg p).2) eva_nil)) (Nat.le_of_ble_eq_true rfl)) ?_
      refine ifb_s (c := rkT R B us z own p) (evt_or' (evt_test (ev_star (ev_var rfl) (ev_var rfl) fun k q => changes_s q)) (evt_and' (evt_test (ev_op (ev_var rfl) (ev_var rfl) fun k q => ?_)) (evt_test (ev_star (ev_var rfl) (ev_var rfl) fun k q => takes_s q)))) (fun hc => ht hc _) (fun hc => hf hc _)
      show oNe (.str p) (.str z) k
      simp [oNe]
      simpa using q
    · rw [if_neg (by rw [hh]; exact Bool.false_ne_true)] at h
      exact words_s hw (.dict ps) (.dict st) wi (fun hh _ => by rw [if_pos hh] at h; exact h) fun hh _ => by rw [if_neg (by rw [hh]; exact Bool.false_ne_true)] at h; exact h
end
end K20

namespace K20
open PySem PySem.Spec PyProof.Rows L2 Br Dl K12
theorem num_out {us : List D} (h : rowsT us) {z : Str} (n : z ∉ nmR us) (d : Int) : numOf us z d = d := by
  obtain ⟨q, e, em⟩ := nmR_prs h
  unfold numOf
  rw [e]
  show (match (look kOf (.inl (.inr z)) (mergeD [] q)).getD (.int d) with | .int i => i | _ => 0) = d
  rw [look_none fun p hp ek => n ?_]
  · rfl
  · rcases merge_key hp with ⟨r, hr, _⟩ | ⟨r, hr, er⟩
    · cases hr
    · have hm : r.1 ∈ (nmR us).map Sum.inr := by rw [← em]; exact List.mem_map.mpr ⟨r, hr, rfl⟩
      obtain ⟨y, hy, ey⟩ := List.mem_map.mp hm
      rw [er, kOf_D, ← ey] at ek
      have : y = z := Sum.inr.inj (Sum.inl.inj (Option.some.inj ek))
      rw [← this]; exact hy
theorem has_merge {k : Key} : ∀ {more : List (Key × D)} {acc : List (D × D)}, ((∃ q ∈ more, q.1 = k) ∨ ∃ d, look kOf (.inl k) acc = some d) → ∃ d, look kOf (.inl k) (mergeD acc more) = some d
  | [], acc, h => by
    rcases h with ⟨q, hq, _⟩ | h
    · cases hq
    · exact h
  | (k', d) :: more, acc, h => by
    refine has_merge (more := more) (acc := putKs acc (.inl k') (keyD k') d) ?_
    by_cases z : k' = k
    · subst z
      exact .inr ⟨d, by rw [look_put (kOf_D k'), if_pos rfl]⟩
    · rcases h with ⟨q, hq, hk⟩ | ⟨x, h⟩
      · rcases List.mem_cons.mp hq with y | y
        · subst y; exact (z hk).elim
        · exact .inl ⟨q, y, hk⟩
      · exact .inr ⟨x, by rw [look_put (kOf_D k'), if_neg (fun w => z (Sum.inl.inj w).symm)]; exact h⟩
theorem mem_keys {us : List D} (h : rowsT us) {zs : List Str} (e : (mergeD [] ((prs us).getD [])).map (·.1) = zs.map .str) (p : Str) : p ∈ zs ↔ p ∈ nmR us := by
  obtain ⟨q, eq, em⟩ := nmR_prs h
  rw [eq] at e
  have e : (mergeD [] q).map (·.1) = zs.map .str := e
  constructor
  · intro hp
    have : D.str p ∈ (mergeD [] q).map (·.1) := by rw [e]; exact List.mem_map.mpr ⟨p, hp, rfl⟩
    obtain ⟨x, hx, ex⟩ := List.mem_map.mp this
    rcases merge_key hx with ⟨r, hr, _⟩ | ⟨r, hr, er⟩
    · cases hr
    · have hm : r.1 ∈ (nmR us).map Sum.inr := by rw [← em]; exact List.mem_map.mpr ⟨r, hr, rfl⟩
      obtain ⟨y, hy, ey⟩ := List.mem_map.mp hm
      rw [er, ← ey] at ex
      have ex : D.str y = D.str p := ex
      cases ex
      exact hy
  · intro hp
    have hm : (Sum.inr p : Key) ∈ q.map (fun q => q.1) := by rw [em]; exact List.mem_map.mpr ⟨p, hp, rfl⟩
    obtain ⟨r, hr, er⟩ := List.mem_map.mp hm
    obtain ⟨d, hd⟩ := has_merge (k := .inr p) (more := q) (acc := []) (.inl ⟨r, hr, er⟩)
    obtain ⟨x, hx, ex, _⟩ := look_in hd
    have : x.1 ∈ zs.map D.str := by rw [← e]; exact List.mem_map.mpr ⟨x, hx, rfl⟩
    obtain ⟨y, hy, ey⟩ := List.mem_map.mp this
    rw [kOf_inl ex] at ey
    have ey : D.str y = D.str p := ey
    cases ey
    exact hy
theorem any_same {T : Str → Bool} {xs ys : List Str} (h : ∀ p, T p = true → (p ∈ xs ↔ p ∈ ys)) : xs.any T = ys.any T := by
  rw [Bool.eq_iff_iff, List.any_eq_true, List.any_eq_true]
  constructor
  · rintro ⟨p, hp, t⟩; exact ⟨p, (h p t).mp hp, t⟩
  · rintro ⟨p, hp, t⟩; exact ⟨p, (h p t).mpr hp, t⟩
theorem ranksV_same {R B : D} {z : Str} {us ws : List D} {xs ys : List Str} (h : ∀ p, rkOf R B p ≠ numOf us p 0 → (p ∈ xs ↔ p ∈ ys)) : ranksV R B z us ws xs = ranksV R B z us ws ys := by
  unfold ranksV
  rw [any_same (xs := xs) (ys := ys) fun p t => h p fun e => ?_]
  unfold rkT chg at t
  simp [e] at t
/-! what is due -/
end K20

namespace K20
open PySem PySem.Spec PyProof.Rows L2 Br Dl K12
/-! a ranks deed asked of the program and of the law -/
theorem bulk_len : ∀ ds : List D, ds.length ≤ PyData.bulkAll (toPys ds)
  | [] => Nat.zero_le _
  | d :: ds => by
    have := bulk_len ds
    show ds.length + 1 ≤ PyData.bulk (toPy d) + 1 + PyData.bulkAll (toPys ds)
    omega
theorem bulk_mem : ∀ {ds : List D} {d : D}, d ∈ ds → PyData.bulk (toPy d) ≤ PyData.bulkAll (toPys ds)
  | x :: ds, d, h => by
    show PyData.bulk (toPy d) ≤ PyData.bulk (toPy x) + 1 + PyData.bulkAll (toPys ds)
    rcases List.mem_cons.mp h with rfl | h
    · omega
    · have := bulk_mem h; omega
theorem rowsT_of : ∀ {us : List D}, numsD us → (∀ u ∈ us, ∃ c z i, u = .tuple c [.str z, .int i]) → rowsT us
  | [], _, _ => fun _ h => nomatch h
  | u :: us, hn, h => by
    obtain ⟨c, z, i, rfl⟩ := h u List.mem_cons_self
    obtain ⟨p, e, hp⟩ := hn
    have e : (match Dl.keyOf (.str z), prs us with | some q, some rs => some ((q, D.int i) :: rs) | _, _ => none) = some p := e
    cases er : prs us with
    | none => rw [er] at e; cases e
    | some rs =>
      rw [er] at e
      have e : some ((Sum.inr z, D.int i) :: rs) = some p := e
      cases e
      have ih := rowsT_of (us := us) ⟨rs, er, fun q hq => hp q (List.mem_cons_of_mem _ hq)⟩ fun v hv => h v (List.mem_cons_of_mem _ hv)
      intro v hv
      rcases List.mem_cons.mp hv with rfl | hv
      · obtain ⟨j, ej, j0⟩ := hp _ List.mem_cons_self
        cases ej
        exact ⟨c, z, i, rfl, j0⟩
      · exact ih v hv
/-- the ranks body that stands, or the empty one -/
def toldV (rb : D) : D := match rb with
  | .tuple e [t, so, wh, ot, to, f1, f2] => to
  | _ => .tuple .mad [.tuple .frz [], .tuple .frz []]
structure Told (fs : List Str) (ps st : List (D × D)) (c' : Tk) (us0 w0 : List D) : Prop where
  e : bOf (dOf ps st "ranks" "") (.tuple .mad [.tuple .frz [], .tuple .frz []]) = .tuple c' [.tuple .frz us0, .tuple .frz w0]
  u : rowsT us0
  w : numsU w0
  f : ∀ u ∈ us0, ∃ c z i, u = .tuple c [.str z, .int i] ∧ z ∈ fs
  l : us0.length ≤ 8000
  k : w0.length ≤ 8000
  n : dOf ps st "ranks" "" = .none → us0 = [] ∧ w0 = []
  s : dOf ps st "ranks" "" ≠ .none → bOf (dOf ps st "ranks" "") .none = .tuple c' [.tuple .frz us0, .tuple .frz w0]
theorem numsU_nil : numsU [] := ⟨⟨[], rfl, (fun _ h => nomatch h)⟩, (fun _ h => nomatch h), List.nodup_nil, (fun _ h => nomatch h)⟩
section
variable {fs : List Str} {ps st : List (D × D)} (g : HI fs ps st)
include g
theorem told_is : ∃ c' us0 w0, Told fs ps st c' us0 w0 := by
  rcases dOf_cases g.toGH "ranks" "" with ⟨e, e1⟩ | ⟨c', hh, i, e', t, so, wh, ot, to, fi, fi', e, e2, e1, hb⟩
  · refine ⟨.mad, [], [], by rw [e1]; rfl, (fun _ h => nomatch h), numsU_nil, (fun _ h => nomatch h), Nat.zero_le _, Nat.zero_le _, fun _ => ⟨rfl, rfl⟩, fun h => absurd e1 h⟩
  · obtain ⟨c3, us, ws, rfl, hu, hw⟩ := hb.2.1 rfl
    obtain ⟨p, hp, _, ep⟩ := look_in (show look kOf (.inr [.inr hh, .inl i]) ps = some _ from e2)
    obtain ⟨_, _, _, _, _, _, _, _, ed, _, us_⟩ := g.fk p hp
    rw [ep] at ed
    cases ed
    have uf := us_ _ _ _ rfl
    have wl := (g.sm p hp).2.bk
    rw [ep] at wl
    have wl : PyData.bulkAll (toPys [t, so, .str wh, ot, .tuple c3 [.tuple .frz us, .tuple .frz ws], fi, fi']) ≤ 8000 := wl
    have b1 := bulk_mem (ds := [t, so, .str wh, ot, .tuple c3 [.tuple .frz us, .tuple .frz ws], fi, fi']) (d := .tuple c3 [.tuple .frz us, .tuple .frz ws]) (by simp)
    have b1 : PyData.bulkAll (toPys [.tuple .frz us, .tuple .frz ws]) ≤ _ := b1
    have b2 := bulk_mem (ds := [.tuple .frz us, .tuple .frz ws]) (d := .tuple .frz us) (by simp)
    have b3 := bulk_mem (ds := [.tuple .frz us, .tuple .frz ws]) (d := .tuple .frz ws) (by simp)
    have b2 : PyData.bulkAll (toPys us) ≤ _ := b2
    have b3 : PyData.bulkAll (toPys ws) ≤ _ := b3
    have l1 := bulk_len us
    have l2 := bulk_len ws
    refine ⟨c3, us, ws, by rw [e1]; rfl, rowsT_of hu (fun u hm => ?_), hw, uf, by omega, by omega, fun h => ?_, fun _ => by rw [e1]; rfl⟩
    · obtain ⟨c, z, j, e, _⟩ := uf u hm
      exact ⟨c, z, j, e⟩
    · rw [e1] at h; cases h
end
end K20

namespace K20
open PySem PySem.Spec PyProof.Rows L2 Br Dl K12
theorem putKs_len {ps : List (D × D)} {k : Key ⊕ List Key} {key v : D} : (putKs ps k key v).length ≤ ps.length + 1 := by
  unfold putKs
  split
  · rw [List.length_map]; omega
  · rw [List.length_append, List.length_singleton]; omega
theorem mergeD_len : ∀ {more : List (Key × D)} {acc : List (D × D)}, (mergeD acc more).length ≤ acc.length + more.length
  | [], acc => Nat.le_refl _
  | (k, d) :: more, acc => by
    have h1 := mergeD_len (more := more) (acc := putKs acc (.inl k) (keyD k) d)
    have h2 := putKs_len (ps := acc) (k := .inl k) (key := keyD k) (v := d)
    show (mergeD (putKs acc (.inl k) (keyD k) d) more).length ≤ acc.length + (more.length + 1)
    omega
theorem keys_len2 {us : List D} (h : rowsT us) : (mergeD [] ((prs us).getD [])).length ≤ us.length := by
  obtain ⟨q, e, em⟩ := nmR_prs h
  rw [e]
  have h1 := mergeD_len (more := q) (acc := [])
  have h2 : q.length = (nmR us).length := by
    have := congrArg List.length em
    rwa [List.length_map, List.length_map] at this
  have h3 : (nmR us).length ≤ us.length := List.length_filterMap_le _ _
  have h1 : (mergeD [] q).length ≤ 0 + q.length := h1
  show (mergeD [] q).length ≤ us.length
  omega
section
variable {fs : List Str} {ps st : List (D × D)} (g : HI fs ps st)
include g
theorem zs_s {c' : Tk} {us0 w0 us : List D} (T : Told fs ps st c' us0 w0) (hu : rowsT us) {e : Tk} {t so ot to fi fi' : D} {wh : Str} (hb : dOf ps st "begin" "" = .tuple e [t, so, .str wh, ot, to, fi, fi']) :
    ∃ zs1 zs2 : List Str, (pplOf (bOf (dOf ps st "ranks" "") .none) (dOf ps st "begin" "")).map (·.1) = zs1.map .str ∧ (mergeD [] ((prs us).getD [])).map (·.1) = zs2.map .str ∧ zs1.length ≤ 8001 ∧ zs2.length ≤ us.length ∧
      ∀ z ws, ranksV (bOf (dOf ps st "ranks" "") .none) (dOf ps st "begin" "") z us ws (zs1 ++ zs2) = ranksV (bOf (dOf ps st "ranks" "") .none) (dOf ps st "begin" "") z us ws (nmR us0 ++ nmR us ++ [wh]) := by
  obtain ⟨zs1, e1⟩ := strs_of fun p hp => (ppl_in g p hp).imp fun _ h => h.1
  obtain ⟨zs2, e2⟩ := strs_of (keys_str hu)
  have l2 : zs2.length ≤ us.length := by
    have h := keys_len2 hu
    have h2 := congrArg List.length e2
    rw [List.length_map, List.length_map] at h2
    omega
  have m2 := mem_keys hu e2
  by_cases q : dOf ps st "ranks" "" = .none
  · obtain ⟨rfl, rfl⟩ := T.n q
    have e1' := e1
    rw [q, hb] at e1'
    have e1' : [D.str wh] = zs1.map .str := e1'
    obtain ⟨x, rfl, ex⟩ : ∃ x, zs1 = [x] ∧ x = wh := by
      match zs1, e1' with
      | [x], h => exact ⟨x, rfl, by injection h with h; injection h with h; exact h.symm⟩
    subst ex
    refine ⟨[x], zs2, e1, e2, by show 1 ≤ 8001; omega, l2, fun z ws => ranksV_same fun p _ => ?_⟩
    have : nmR [] = [] := rfl
    rw [this]
    simp [m2 p]
    exact Or.comm
  · have er := T.s q
    have e1' := e1
    rw [er] at e1'
    have e1' : (mergeD [] ((prs us0).getD [])).map (·.1) = zs1.map .str := e1'
    have m1 := mem_keys T.u e1'
    have l1 : zs1.length ≤ 8001 := by
      have h := keys_len2 T.u
      have h2 := congrArg List.length e1'
      rw [List.length_map, List.length_map] at h2
      have := T.l
      omega
    refine ⟨zs1, zs2, e1, e2, l1, l2, fun z ws => ranksV_same fun p hp => ?_⟩
    rw [er] at hp
    simp [m1 p, m2 p]
    refine ⟨fun h => h.elim .inl fun h => .inr (.inl h), fun h => h.elim .inl fun h => h.elim .inr fun ep => ?_⟩
    by_cases a : p ∈ nmR us0
    · exact .inl a
    · by_cases b : p ∈ nmR us
      · exact .inr b
      · have h1 : rkOf (.tuple c' [.tuple .frz us0, .tuple .frz w0]) (dOf ps st "begin" "") p = numOf us0 p 0 := rfl
        rw [h1, num_out T.u a, num_out hu b] at hp
        exact absurd rfl hp
end
end K20

namespace K20
open PySem PySem.Spec PyProof.Rows L2 Br Dl K12
theorem asg_st {m : ME} {mg : MG} {b : MS} {E : Dn} {ρ : Cs} {d : D} (h : Ev m ρ d) (q : mg d ρ (b E)) : sSeq (sAsg m mg) b E ρ := h _ q
def four : ME := (mTup (aCons (mOp oIx (mVar 2) (mC (.int 1))) (aCons (mOp oIx (mVar 2) (mC (.int 2))) (aCons (mOp oIx (mVar 2) (mC (.int 3))) (aCons (mOp oIx (mVar 2) (mC (.int 4))) aNil)))))
theorem four_ev {ρ : Cs} {c : Tk} {x0 x1 x2 x3 x4 x5 x6 : D} (h : ρ[2]? = some (.fro (.tuple c [x0, x1, x2, x3, x4, x5, x6]))) : Ev four ρ (.tuple .mad [x1, x2, x3, x4]) := by
  have v : Ev (mVar 2) ρ (.tuple c [x0, x1, x2, x3, x4, x5, x6]) := ev_var h
  have o : ∀ (i : Int) (d : D), (∀ k : D → Prop, k d → oIx (.tuple c [x0, x1, x2, x3, x4, x5, x6]) (.int i) k) → Ev (mOp oIx (mVar 2) (mC (.int i))) ρ d := fun i d f => ev_op v ev_c f
  exact ev_tup (eva_cons (o 1 x1 fun k q => q) (eva_cons (o 2 x2 fun k q => q) (eva_cons (o 3 x3 fun k q => q) (eva_cons (o 4 x4 fun k q => q) eva_nil)))) (Nat.le_of_ble_eq_true rfl)
def g4 : MG := (mgTup 4 (mgCons (mgName 3) (mgCons (mgName 4) (mgCons (mgName 5) (mgCons (mgName 6) mgNil)))))
theorem names4 {x1 x2 x3 x4 : D} {c0 c1 c2 : Cell} {b : MS} {E : Dn} (q : b E [c0, c1, c2, .fro x1, .fro x2, .fro x3, .fro x4]) : g4 (.tuple .mad [x1, x2, x3, x4]) [c0, c1, c2, .un, .un, .un, .un] (b E) := ⟨rfl, q⟩
section
variable {ps st : List (D × D)} (g : GH ps st)
include g
theorem begin_in {c : Tk} {m : ME} {ρ : Cs} (hm : Ev m ρ (.tuple c [.str "begin", .str ""])) (h1 : ρ[1]? = some (.fro (.dict st))) : EvT (mTest (mOp (oIn true) m (mVar 1))) ρ (lkS st "begin" "").isNone :=
  evt_test (ev_op hm (ev_var h1) fun k q => by
    simp [oIn, kof_eq, fits_t g.ts, lk_eq]
    cases e : lkS st "begin" "" with
    | none => rw [e] at q; exact q
    | some x => rw [e] at q; exact q)
end
end K20

namespace K20
open PySem PySem.Spec PyProof.Rows L2 Br Dl
/-! the rule that bars a seat -/
def seatW (ps st : List (D × D)) (z : Str) : Str := sOf (bOf (dOf ps st "seat" z) (.str "out"))
def whoW : D → D
  | .tuple _ [_, _, wh, _, _, _, _] => wh
  | _ => .none
def rkW (ps st : List (D × D)) (z : Str) : Int := rkOf (bOf (dOf ps st "ranks" "") .none) (dOf ps st "begin" "") z
def isS (d : D) (z : Str) : Bool := match d with
  | .str x => decide (x = z)
  | _ => false
def isNo (d : D) : Bool := match d with
  | .none => true
  | _ => false
def takenW (y : Str) : Bool := decide (y = "in") || decide (y = "called")
def comingW (ps st : List (D × D)) (z ab : Str) : D :=
  if ab ≠ z then .str "other" else if seatW ps st z = "barred" then .str "barred"
  else if (takenW (seatW ps st z) || (isS (bOf (dOf ps st "door" "") (.str "asked")) "open" || isS (whoW (dOf ps st "begin" "")) z)) = true then .none else .str "door"
def callingW (ps st : List (D × D)) (z ab : Str) : D :=
  if seatW ps st ab = "in" then .str "there" else if seatW ps st ab = "barred" then .str "barred" else lessV ps st z "call"
def putA (ps st : List (D × D)) (z ab w : Str) : D := if (isNo (lessV ps st z w) && decide (seatW ps st ab = "barred")) = true then lessV ps st z "bar" else lessV ps st z w
def puttingW (ps st : List (D × D)) (z ab w : Str) : D :=
  if (isNo (putA ps st z ab w) && decide (rkW ps st z ≤ rkW ps st ab)) = true then .str "above" else putA ps st z ab w
def seatsW (ps st : List (D × D)) (z ab y : Str) : D :=
  if y = "in" then comingW ps st z ab
  else if y = "out" ∧ ab = z then (if takenW (seatW ps st z) = true then .none else .str "seat")
  else if seatW ps st z ≠ "in" then .str "seat"
  else if y = "called" then callingW ps st z ab
  else puttingW ps st z ab (if y = "out" then "out" else "bar")
theorem eqd {x y : Str} (k : D → Prop) (q : k (.bool (decide (x = y)))) : oEq (.str x) (.str y) k := q
theorem ned {x y : Str} (k : D → Prop) (q : k (.bool (!decide (x = y)))) : oNe (.str x) (.str y) k := q
section
variable {ps st : List (D × D)} (g : GH ps st)
include g
theorem seatW_s {z : Str} (k : D → List Cell → Prop) (h : k (.str (seatW ps st z)) []) : F_seat_in [.fro (.dict ps), .fro (.dict st), .fro (.str z)] k := by
  obtain ⟨y, e⟩ := seat_str g z
  refine seat_in_s g ?_
  unfold seatW at h
  rw [e] at h ⊢
  exact h
theorem lessW_s {z w : Str} (k : D → List Cell → Prop) (h : k (lessV ps st z w) []) : F_bar_less [.fro (.dict ps), .fro (.dict st), .fro (.str z), .fro (.str w)] k := bar_less_s g h
theorem rkW_s {z : Str} (k : D → List Cell → Prop) (h : k (.int (rkW ps st z)) []) : F_rank_in [.fro (.dict ps), .fro (.dict st), .fro (.str z)] k := rank_in_s g h
theorem lessV_or {z w : Str} : lessV ps st z w = .none ∨ lessV ps st z w = .str "rank" := by
  unfold lessV
  split
  · exact .inr rfl
  · exact .inl rfl
theorem doorW_s : ∃ y, bOf (dOf ps st "door" "") (.str "asked") = .str y ∧ ∀ k : D → List Cell → Prop, k (.str y) [] → F_door_in [.fro (.dict ps), .fro (.dict st)] k := by
  have h : ∃ y, bOf (dOf ps st "door" "") (.str "asked") = .str y := by
    rcases dOf_cases g "door" "" with ⟨e, e1⟩ | ⟨c', hh, i, e', t, so, wh, ot, to, fi, fi', e, e2, e1, hb⟩
    · rw [e1]; exact ⟨_, rfl⟩
    · obtain ⟨y, rfl⟩ := hb.2.2 (.inr rfl)
      rw [e1]; exact ⟨y, rfl⟩
  obtain ⟨y, e⟩ := h
  refine ⟨y, e, fun k h => Fof.mk rfl ?_⟩
  simp [b_door_in, sRet, mCall, rCons, rNil, mVar, cellsOf, slotsOf, mC, k_DOOR_KEY]
  refine body_for_s_ g (b := b_body_for) rfl ?_
  rw [e]
  simpa [putBack] using h
theorem whoW_s : (lkS st "begin" "" = none ∨ ∃ x, whoW (dOf ps st "begin" "") = .str x) ∧ ∀ k : D → List Cell → Prop, k (whoW (dOf ps st "begin" "")) [] → F_who_began [.fro (.dict ps), .fro (.dict st)] k := by
  rcases dOf_cases g "begin" "" with ⟨f, f1⟩ | ⟨c2, hh2, i2, e2', t2, so2, wh2, ot2, to2, fi2, fi2', f, f2, f1, hb2⟩
  · refine ⟨.inl f, fun k h => Fof.mk rfl ?_⟩
    rw [f1] at h
    simp [b_who_began, sRet, mIfE, mTest, mOp, mVar, oIn, lk_eq, kof_eq, fits_t g.ts, f, mC, k_BEGIN_KEY]
    exact h
  · refine ⟨.inr ⟨wh2, by rw [f1]; rfl⟩, fun k h => Fof.mk rfl ?_⟩
    rw [f1] at h
    simp [b_who_began, sRet, mIfE, mTest, mOp, mVar, oIn, lk_eq, kof_eq, kof_nm, fits_t g.ts, fits_t g.th, f, mC, oIx, f2, atI, ixN, k_BEGIN_KEY]
    exact h
theorem taken_ev {ρ : Cs} {m : ME} {y : Str} (h : Ev m ρ (.str y)) : EvT (mTest (mOp (oIn false) m (mC k_TAKEN_SEATS))) ρ (takenW y) :=
  evt_test (ev_op h ev_c fun k q => by
    have e : memD (.str y) [.str "in", .str "called"] = takenW y := by
      unfold takenW
      simp [memD, toV, eqV, beqS]
    refine ⟨rfl, rfl, ?_⟩
    show k (.bool (memD (.str y) [.str "in", .str "called"] != false))
    rw [e, Bool.bne_false]
    exact q)
end
end K20

namespace K20
open PySem PySem.Spec PyProof.Rows L2 Br Dl
theorem ifs_s {t : MT} {a b : MS} {E : Dn} {ρ : Cs} {c : Bool} (h : EvT t ρ c) (q1 : c = true → a { E with nx := b E } ρ) (q0 : c = false → b E ρ) : sSeq (sIf t a sNext) b E ρ := by
  cases c with
  | false => exact if0_st h (q0 rfl)
  | true => exact if1_st h (q1 rfl)
theorem ret_ev {m : ME} {E : Dn} {ρ : Cs} {d : D} (h : Ev m ρ d) (q : E.rt d ρ) : sRet m E ρ := h _ q
theorem not_dec {p : Prop} [Decidable p] (h : (!decide p) = true) : ¬ p := by
  intro hp; rw [decide_eq_true hp] at h; cases h
theorem not_dec0 {p : Prop} [Decidable p] (h : (!decide p) = false) : p := by
  by_cases hp : p
  · exact hp
  · rw [decide_eq_false hp] at h; cases h
theorem ev_ife {t : MT} {a b : ME} {ρ : Cs} {c : Bool} {x y : D} (h : EvT t ρ c) (h1 : c = true → Ev a ρ x) (h0 : c = false → Ev b ρ y) : Ev (mIfE t a b) ρ (if c = true then x else y) := fun k q => h _ (by
  cases c with
  | true => exact h1 rfl _ q
  | false => exact h0 rfl _ q)
theorem isno_s {d : D} (hd : d = .none ∨ ∃ x, d = .str x) (k : D → Prop) (q : k (.bool (isNo d))) : oIsN false d .none k := by
  rcases hd with rfl | ⟨x, rfl⟩
  · exact q
  · exact q
section
variable {ps st : List (D × D)} (g : GH ps st)
include g
theorem coming_s {z ab : Str} (hb : lkS st "begin" "" ≠ none) (K : D → List Cell → Prop) (h : K (comingW ps st z ab) []) : F_bar_coming [.fro (.dict ps), .fro (.dict st), .fro (.str z), .fro (.str ab)] K := by
  refine Fof.mk rfl ?_
  obtain ⟨dy, ed, sd⟩ := doorW_s g
  obtain ⟨ew, sw⟩ := whoW_s g
  obtain ⟨w, ew⟩ := ew.resolve_left hb
  unfold comingW at h
  rw [ed, ew] at h
  rw [ew] at sw
  refine ifs_s (c := !decide (ab = z)) (ρ := [.fro (.dict ps), .fro (.dict st), .fro (.str z), .fro (.str ab), .un]) (evt_test (ev_op (ev_var rfl) (ev_var rfl) ned)) (fun c => ret_ev ev_c ?_) (fun c => ?_)
  · rw [if_pos (not_dec c)] at h; exact h
  rw [if_neg (not_not_intro (not_dec0 c))] at h
  refine set_ev (d := .str (seatW ps st z)) (ev_call3 (ev_var rfl) (ev_var rfl) (ev_var rfl) fun k q => seatW_s g k q) ?_
  refine ifs_s (c := decide (seatW ps st z = "barred")) (evt_test (ev_op (ev_var rfl) ev_c eqd)) (fun c => ret_ev ev_c ?_) (fun c => ?_)
  · rw [if_pos (of_decide_eq_true c)] at h; exact h
  rw [if_neg (of_decide_eq_false c)] at h
  refine ifs_s (c := takenW (seatW ps st z) || (decide (dy = "open") || decide (z = w))) (evt_or' (taken_ev g (ev_var rfl)) (evt_or' (evt_test (ev_op (ev_call2 (ev_var rfl) (ev_var rfl) fun k q => sd k q) ev_c eqd)) (evt_test (ev_op (ev_var rfl) (ev_call2 (ev_var rfl) (ev_var rfl) fun k q => sw k q) eqd)))) (fun c => ret_ev ev_c ?_) (fun c => ret_ev ev_c ?_)
  · have c' : (takenW (seatW ps st z) || (isS (.str dy) "open" || isS (.str w) z)) = true := by
      rw [← c]; show _ = _; unfold isS; simp [eq_comm]
    rw [if_pos c'] at h; exact h
  · have c' : ¬ (takenW (seatW ps st z) || (isS (.str dy) "open" || isS (.str w) z)) = true := by
      have e : (takenW (seatW ps st z) || (isS (.str dy) "open" || isS (.str w) z)) = (takenW (seatW ps st z) || (decide (dy = "open") || decide (z = w))) := by unfold isS; simp [eq_comm]
      rw [e, c]; exact Bool.false_ne_true
    rw [if_neg c'] at h; exact h
theorem calling_s {z ab : Str} (K : D → List Cell → Prop) (h : K (callingW ps st z ab) []) : F_bar_calling [.fro (.dict ps), .fro (.dict st), .fro (.str z), .fro (.str ab)] K := by
  refine Fof.mk rfl ?_
  unfold callingW at h
  refine set_ev (ρ := [.fro (.dict ps), .fro (.dict st), .fro (.str z), .fro (.str ab), .un]) (d := .str (seatW ps st ab)) (ev_call3 (ev_var rfl) (ev_var rfl) (ev_var rfl) fun k q => seatW_s g k q) ?_
  refine ifs_s (c := decide (seatW ps st ab = "in")) (evt_test (ev_op (ev_var rfl) ev_c eqd)) (fun c => ret_ev ev_c ?_) (fun c => ?_)
  · rw [if_pos (of_decide_eq_true c)] at h; exact h
  rw [if_neg (of_decide_eq_false c)] at h
  refine ifs_s (c := decide (seatW ps st ab = "barred")) (evt_test (ev_op (ev_var rfl) ev_c eqd)) (fun c => ret_ev ev_c ?_) (fun c => ?_)
  · rw [if_pos (of_decide_eq_true c)] at h; exact h
  rw [if_neg (of_decide_eq_false c)] at h
  exact ret_ev (ev_call4 (ev_var rfl) (ev_var rfl) (ev_var rfl) ev_c fun k q => lessW_s g k q) h
theorem lessV_no {z w : Str} : lessV ps st z w = .none ∨ ∃ x, lessV ps st z w = .str x := (lessV_or g).imp id fun h => ⟨_, h⟩
theorem putA_no {z ab w : Str} : putA ps st z ab w = .none ∨ ∃ x, putA ps st z ab w = .str x := by
  unfold putA
  split
  · exact lessV_no g
  · exact lessV_no g
theorem putting_s {z ab w : Str} (K : D → List Cell → Prop) (h : K (puttingW ps st z ab w) []) : F_bar_putting [.fro (.dict ps), .fro (.dict st), .fro (.str z), .fro (.str ab), .fro (.str w)] K := by
  refine Fof.mk rfl ?_
  refine set_ev (ρ := [.fro (.dict ps), .fro (.dict st), .fro (.str z), .fro (.str ab), .fro (.str w), .un]) (d := lessV ps st z w) (ev_call4 (ev_var rfl) (ev_var rfl) (ev_var rfl) (ev_var rfl) fun k q => lessW_s g k q) ?_
  have rest : ∀ E : Dn, (∀ ρ, E.rt (puttingW ps st z ab w) ρ) → (sSeq (sIf (mAnd (mTest (mOp (oIsN false) (mVar 5) (mC .none))) (mTest (mOp oGe (mCall F_rank_in 0 (rCons (mVar 0) (rCons (mVar 1) (rCons (mVar 3) rNil)))) (mCall F_rank_in 0 (rCons (mVar 0) (rCons (mVar 1) (rCons (mVar 2) rNil)))))))
      (sSet 5 (mC (.str "above")))
      sNext)
    (sRet (mVar 5))) E [.fro (.dict ps), .fro (.dict st), .fro (.str z), .fro (.str ab), .fro (.str w), .fro (putA ps st z ab w)] := fun E h => by
    unfold puttingW at h
    refine ifs_s (c := isNo (putA ps st z ab w) && decide (rkW ps st z ≤ rkW ps st ab)) (evt_and' (evt_test (ev_op (ev_var rfl) ev_c fun k q => isno_s (putA_no g) k q)) (evt_test (ev_op (ev_call3 (ev_var rfl) (ev_var rfl) (ev_var rfl) fun k q => rkW_s g k q) (ev_call3 (ev_var rfl) (ev_var rfl) (ev_var rfl) fun k q => rkW_s g k q) fun k q => q))) (fun c => ?_) (fun c => ?_)
    · rw [if_pos c] at h
      exact ret_ev (ρ := [.fro (.dict ps), .fro (.dict st), .fro (.str z), .fro (.str ab), .fro (.str w), .fro (.str "above")]) (d := .str "above") (ev_var (i := 5) rfl) (h _)
    · rw [if_neg (by rw [c]; exact Bool.false_ne_true)] at h
      exact ret_ev (ev_var rfl) (h _)
  refine ifs_s (c := isNo (lessV ps st z w) && decide (seatW ps st ab = "barred")) (evt_and' (evt_test (ev_op (ev_var rfl) ev_c fun k q => isno_s (lessV_no g) k q)) (evt_test (ev_op (ev_call3 (ev_var rfl) (ev_var rfl) (ev_var rfl) fun k q => seatW_s g k q) ev_c eqd))) (fun c => ?_) (fun c => ?_)
  · have e : putA ps st z ab w = lessV ps st z "bar" := by unfold putA; rw [if_pos c]
    rw [e] at rest
    refine (ev_call4 (ρ := [.fro (.dict ps), .fro (.dict st), .fro (.str z), .fro (.str ab), .fro (.str w), .fro (lessV ps st z w)]) (ev_var rfl) (ev_var rfl) (ev_var rfl) ev_c fun k q => lessW_s g k q) _ ?_
    exact rest _ (fun ρ => h)
  · have e : putA ps st z ab w = lessV ps st z w := by unfold putA; rw [if_neg (by rw [c]; exact Bool.false_ne_true)]
    rw [e] at rest
    exact rest _ (fun ρ => h)
end
end K20

namespace K20
open PySem PySem.Spec PyProof.Rows L2 Br Dl K12
/-! the rule that bars a deed -/
def barW (ps st : List (D × D)) (so z ab h : Str) (co V : D) : D :=
  if so = "begin" then (if 0 < st.length then .str "begun" else .none)
  else if lkS st "begin" "" = none then .str "unbegun"
  else if so = "seat" then seatsW ps st z ab (sOf co)
  else if seatW ps st z ≠ "in" then .str "seat"
  else if so = "ranks" then V
  else if so = "strike" then (if ruleOf (dOf ps st "begin" "") = 2 ∧ firstS co = some h then .none else lessV ps st z "strike")
  else lessV ps st z so
def bar_r : MS := (sSeq (sIf (mTest (mOp oEq (mVar 3) (mC (.str "begin"))))
      (sRet (mIfE (mTest (mOp oGt (mUn oLen (mVar 1)) (mC (.int 0)))) (mC (.str "begun")) (mC .none)))
      sNext)
    (sSeq (sIf (mTest (mOp (oIn true) (mC k_BEGIN_KEY) (mVar 1)))
      (sRet (mC (.str "unbegun")))
      sNext)
    (sSeq (sIf (mTest (mOp oEq (mVar 3) (mC (.str "seat"))))
      (sRet (mCall F_bar_seat 0 (rCons (mVar 0) (rCons (mVar 1) (rCons (mVar 4) (rCons (mVar 5) (rCons (mVar 6) rNil)))))))
      sNext)
    (sSeq (sIf (mTest (mOp oNe (mCall F_seat_in 0 (rCons (mVar 0) (rCons (mVar 1) (rCons (mVar 4) rNil)))) (mC (.str "in"))))
      (sRet (mC (.str "seat")))
      sNext)
    (sSeq (sIf (mTest (mOp oEq (mVar 3) (mC (.str "ranks"))))
      (sRet (mCall F_bar_ranks 0 (rCons (mVar 0) (rCons (mVar 1) (rCons (mVar 4) (rCons (mVar 6) rNil))))))
      sNext)
    (sSeq (sIf (mTest (mOp oEq (mVar 3) (mC (.str "strike"))))
      (sRet (mCall F_bar_strike 0 (rCons (mVar 0) (rCons (mVar 1) (rCons (mVar 4) (rCons (mVar 6) rNil))))))
      sNext)
    (sRet (mCall F_bar_less 0 (rCons (mVar 0) (rCons (mVar 1) (rCons (mVar 4) (rCons (mVar 3) rNil))))))))))))
theorem bar_eq' : b_bar = sSeq (sAsg four g4) bar_r := rfl
theorem bar_asg {c : Tk} {x0 x1 x2 x3 x4 x5 x6 : D} {c0 c1 : Cell} {E : Dn} (q : bar_r E [c0, c1, .fro (.tuple c [x0, x1, x2, x3, x4, x5, x6]), .fro x1, .fro x2, .fro x3, .fro x4]) : b_bar E [c0, c1, .fro (.tuple c [x0, x1, x2, x3, x4, x5, x6]), .un, .un, .un, .un] := by
  rw [bar_eq']
  exact asg_st (four_ev rfl) (names4 q)
theorem ev_call5 {F : Fs} {ma mb mc md me : ME} {ρ : Cs} {a b c e f d : D} (h : Ev ma ρ a) (g : Ev mb ρ b) (i : Ev mc ρ c) (j : Ev md ρ e) (l : Ev me ρ f) (hF : ∀ k : D → List Cell → Prop, k d [] → F [.fro a, .fro b, .fro c, .fro e, .fro f] k) : Ev (mCall F 0 (rCons ma (rCons mb (rCons mc (rCons md (rCons me rNil)))))) ρ d := fun k q => h _ (g _ (i _ (j _ (l _ ⟨List.nodup_nil, rfl, hF _ q⟩))))
section
variable {ps st : List (D × D)} (g : GH ps st)
include g
theorem seats_s {z ab y : Str} (hb : lkS st "begin" "" ≠ none) (K : D → List Cell → Prop) (h : K (seatsW ps st z ab y) []) : F_bar_seat [.fro (.dict ps), .fro (.dict st), .fro (.str z), .fro (.str ab), .fro (.str y)] K := by
  refine Fof.mk rfl ?_
  unfold seatsW at h
  refine ifs_s (c := decide (y = "in")) (ρ := [.fro (.dict ps), .fro (.dict st), .fro (.str z), .fro (.str ab), .fro (.str y), .un]) (evt_test (ev_op (ev_var rfl) ev_c eqd)) (fun c => ?_) (fun c => ?_)
  · rw [if_pos (of_decide_eq_true c)] at h
    exact ret_ev (ev_call4 (ev_var rfl) (ev_var rfl) (ev_var rfl) (ev_var rfl) fun k q => coming_s g hb k q) h
  rw [if_neg (of_decide_eq_false c)] at h
  refine set_ev (d := .str (seatW ps st z)) (ev_call3 (ev_var rfl) (ev_var rfl) (ev_var rfl) fun k q => seatW_s g k q) ?_
  refine ifs_s (c := decide (y = "out") && decide (ab = z)) (evt_and' (evt_test (ev_op (ev_var rfl) ev_c eqd)) (evt_test (ev_op (ev_var rfl) (ev_var rfl) eqd))) (fun c => ?_) (fun c => ?_)
  · rw [if_pos (by simpa using c)] at h
    exact ret_ev (ev_ife (taken_ev g (ev_var rfl)) (fun _ => ev_c) (fun _ => ev_c)) h
  rw [if_neg (by intro w; rw [decide_eq_true w.1, decide_eq_true w.2] at c; cases c)] at h
  refine ifs_s (c := !decide (seatW ps st z = "in")) (evt_test (ev_op (ev_var rfl) ev_c ned)) (fun c => ret_ev ev_c ?_) (fun c => ?_)
  · rw [if_pos (not_dec c)] at h; exact h
  rw [if_neg (not_not_intro (not_dec0 c))] at h
  refine ifs_s (c := decide (y = "called")) (evt_test (ev_op (ev_var rfl) ev_c eqd)) (fun c => ?_) (fun c => ?_)
  · rw [if_pos (of_decide_eq_true c)] at h
    exact ret_ev (ev_call4 (ev_var rfl) (ev_var rfl) (ev_var rfl) (ev_var rfl) fun k q => calling_s g k q) h
  rw [if_neg (of_decide_eq_false c)] at h
  refine ret_ev (ev_call5 (ev_var rfl) (ev_var rfl) (ev_var rfl) (ev_var rfl) (ev_ife (c := decide (y = "out")) (x := .str "out") (y := .str "bar") (evt_test (ev_op (ev_var rfl) ev_c eqd)) (fun _ => ev_c) (fun _ => ev_c)) fun k q => ?_) h
  by_cases e : y = "out"
  · rw [if_pos e] at q
    rw [if_pos (decide_eq_true e)]
    exact putting_s g k q
  · rw [if_neg e] at q
    rw [if_neg (by rw [decide_eq_false e]; exact Bool.false_ne_true)]
    exact putting_s g k q
theorem bar_sW {so z ab h : Str} {co nm f1 f2 V : D} {c : Tk} (p : Pn z h) (h1 : so = "seat" → ∃ y, co = .str y) (h2 : so = "strike" → ∃ c x r, co = .tuple c (.str x :: r))
    (hV : so = "ranks" → lkS st "begin" "" ≠ none → ∀ k : D → List Cell → Prop, k V [] → F_bar_ranks [.fro (.dict ps), .fro (.dict st), .fro (.str z), .fro co] k)
    (hs : st.length < sizeLine) (K : D → List Cell → Prop) (q : K (barW ps st so z ab h co V) []) : F_bar [.fro (.dict ps), .fro (.dict st), .fro (.tuple c [nm, .str so, .str z, .str ab, co, f1, f2])] K := by
  refine Fof.mk rfl ?_
  refine bar_asg ?_
  unfold barW at q
  refine ifs_s (c := decide (so = "begin")) (evt_test (ev_op (ev_var rfl) ev_c eqd)) (fun c => ?_) (fun c => ?_)
  · rw [if_pos (of_decide_eq_true c)] at q
    refine ret_ev (ev_ife (c := decide (0 < st.length)) (x := .str "begun") (y := .none) (evt_test (ev_op (a := .int st.length) (ev_un (a := .dict st) (ev_var rfl) fun k q => ?_) ev_c fun k q => ?_)) (fun _ => ev_c) (fun _ => ev_c)) ?_
    · exact q
    · have : decide ((0 : Int) < (st.length : Int)) = decide (0 < st.length) := by simp
      show k (.bool (decide ((0 : Int) < (st.length : Int))))
      rw [this]; exact q
    · by_cases e : 0 < st.length
      · rw [if_pos e] at q; rw [if_pos (decide_eq_true e)]; exact q
      · rw [if_neg e] at q; rw [if_neg (by rw [decide_eq_false e]; exact Bool.false_ne_true)]; exact q
  rw [if_neg (of_decide_eq_false c)] at q
  refine ifs_s (begin_in g (m := mC k_BEGIN_KEY) (c := .wri) ev_c rfl) (fun c => ret_ev ev_c ?_) (fun c => ?_)
  · rw [if_pos (Option.isNone_iff_eq_none.mp c)] at q; exact q
  have hb : lkS st "begin" "" ≠ none := fun e => by rw [e] at c; cases c
  rw [if_neg hb] at q
  refine ifs_s (c := decide (so = "seat")) (evt_test (ev_op (ev_var rfl) ev_c eqd)) (fun c => ?_) (fun c => ?_)
  · rw [if_pos (of_decide_eq_true c)] at q
    obtain ⟨y, rfl⟩ := h1 (of_decide_eq_true c)
    exact ret_ev (ev_call5 (ev_var rfl) (ev_var rfl) (ev_var rfl) (ev_var rfl) (ev_var rfl) fun k q => seats_s g hb k q) q
  rw [if_neg (of_decide_eq_false c)] at q
  refine ifs_s (c := !decide (seatW ps st z = "in")) (evt_test (ev_op (ev_call3 (d := .str (seatW ps st z)) (ev_var rfl) (ev_var rfl) (ev_var rfl) fun k q => seatW_s g k q) ev_c ned)) (fun c => ret_ev ev_c ?_) (fun c => ?_)
  · rw [if_pos (not_dec c)] at q; exact q
  rw [if_neg (not_not_intro (not_dec0 c))] at q
  refine ifs_s (c := decide (so = "ranks")) (evt_test (ev_op (ev_var rfl) ev_c eqd)) (fun c => ?_) (fun c => ?_)
  · rw [if_pos (of_decide_eq_true c)] at q
    exact ret_ev (ev_call4 (ev_var rfl) (ev_var rfl) (ev_var rfl) (ev_var rfl) fun k q => hV (of_decide_eq_true c) hb k q) q
  rw [if_neg (of_decide_eq_false c)] at q
  refine ifs_s (c := decide (so = "strike")) (evt_test (ev_op (ev_var rfl) ev_c eqd)) (fun c => ?_) (fun c => ?_)
  · rw [if_pos (of_decide_eq_true c)] at q
    obtain ⟨cc, x, r, rfl⟩ := h2 (of_decide_eq_true c)
    refine ret_ev (ev_call4 (ev_var rfl) (ev_var rfl) (ev_var rfl) (ev_var rfl) fun k q => bar_strike_s g p hb q) ?_
    simpa [firstS] using q
  rw [if_neg (of_decide_eq_false c)] at q
  exact ret_ev (ev_call4 (ev_var rfl) (ev_var rfl) (ev_var rfl) (ev_var rfl) fun k q => lessW_s g k q) q
end
end K20

namespace K20
open PySem PySem.Spec PyProof.Rows L2 Br Dl K12
/-! what a deed tells, as the law draws it -/
def Cont (so : Str) (x : D) : Prop :=
  (so = "seat" → ∃ y, x = .str y) ∧ (so = "strike" → ∃ c y i, x = .tuple c [.str y, .int i]) ∧
  (so = "ranks" → ∃ us ws, x = .tuple .mad [.tuple .frz us, .tuple .frz ws] ∧ rowsT us ∧ numsU ws ∧ us.length ≤ 8100)
theorem cont_no {so m : Str} {x : D} (q : decide (so = m) = true) (h1 : m ≠ "seat") (h2 : m ≠ "strike") (h3 : m ≠ "ranks") : Cont so x := by
  have e := of_decide_eq_true q
  subst e
  exact ⟨fun h => absurd h h1, fun h => absurd h h2, fun h => absurd h h3⟩
theorem join_st {x : Str} {mb : ME} {ρ : Cs} {k : D → Cs → Prop} (q : mb ρ fun db ρ2 => match (seqOf db).bind strsOf with | some ys => (ys.map (·.length)).sum + ys.length * x.length ≤ 16777216 ∧ k (.str (Txt.join x ys)) ρ2 | none => False) : mJoin (mC (.str x)) mb ρ k := q
theorem lc_st {mi : MI} {mg : MG} {mt : MT} {me : ME} {vs : List Nat} {ρ : Cs} {k : D → Cs → Prop} (q : mi ρ fun xs ρ1 => xs.length ≤ sizeLine ∧ mLcL mg mt me vs (fun ds ρ2 => k (.list ds) ρ2) xs [] (wipeC ρ1 vs)) : mLc mi mg mt me vs ρ k := q
theorem rng_st {m : MA} {ρ : Cs} {k : List D → Cs → Prop} (q : m ρ fun ds ρ1 => match ds with | [.int j] => -(2 ^ 62) ≤ j ∧ j < 2 ^ 62 ∧ k (intsD 0 j.toNat) ρ1 | _ => False) : mRng1 m ρ k := q
abbrev sg : Str := "abz 09!~-:;,=@"
theorem sg_at {r : Int} (h0 : 0 ≤ r) (h1 : r < 14) : ∃ c, atI sg.cps.toList r = some c := by
  have hl : sg.cps.toList.length = 14 := by decide +kernel
  have e : ((r.toNat : Nat) : Int) = r := Int.toNat_of_nonneg h0
  refine ⟨sg.cps.toList[r.toNat]'(by omega), ?_⟩
  have q : atI sg.cps.toList ((r.toNat : Nat) : Int) = some _ := atI_nat (List.getElem?_eq_getElem (by omega))
  rw [e] at q
  exact q
theorem ones_sum : ∀ {ys : List Str}, (∀ y ∈ ys, y.length = 1) → (ys.map (·.length)).sum = ys.length
  | [], _ => rfl
  | y :: ys, h => by
    have := ones_sum fun z hz => h z (List.mem_cons_of_mem _ hz)
    have := h y List.mem_cons_self
    rw [List.map_cons, List.sum_cons, List.length_cons]
    omega
theorem signs_L {a1 a2 a3 : Cell} {K : List D → Cs → Prop} : ∀ (xs : List D) (ys : List Str) (c : Cell), PL c → (∀ y ∈ ys, y.length = 1) →
    (∀ (ys' : List Str) (c' : Cell), PL c' → ys'.length = ys.length + xs.length → (∀ y ∈ ys', y.length = 1) → K (ys'.map .str) [c', a1, a2, a3, .fro (.str sg), .un]) →
    mLcL (mgName 5) mYes (mOp oIx (mVar 4) (mCall F_law_take 1 (rOwn 0 (rCons (mC (.int 14)) rNil)))) [5] K xs (ys.map .str) [c, a1, a2, a3, .fro (.str sg), .un]
  | [], ys, c, p, hy, h => h ys c p rfl hy
  | x :: xs, ys, c, p, hy, h => by
    refine lcL_yes (op_var rfl ?_)
    refine call_take rfl p (fun _ z => z) (by decide) (by decide) fun t c' t0 t1 pc => ?_
    obtain ⟨s, hs⟩ := sg_at t0 t1
    show _ ∧ _
    refine ⟨by decide, ?_⟩
    show match atI sg.cps.toList t with | some c => _ | none => False
    rw [hs]
    show mLcL _ _ _ _ K xs (ys.map D.str ++ [.str ⟨#[s]⟩]) _
    have e : ys.map D.str ++ [.str ⟨#[s]⟩] = (ys ++ [(⟨#[s]⟩ : Str)]).map D.str := by rw [List.map_append]; rfl
    rw [e]
    refine signs_L xs (ys ++ [⟨#[s]⟩]) c' pc (fun y my => ?_) (fun ys' c2 p2 l2 => h ys' c2 p2 (by rw [l2, List.length_append, List.length_cons, List.length_cons, List.length_nil]; omega))
    rcases List.mem_append.mp my with z | z
    · exact hy y z
    · rw [List.mem_singleton.mp z]; rfl
def say_b : MS := (sSeq (sSet 4 (mC (.str "abz 09!~-:;,=@")))
    (sRet (mJoin (mC (.str "")) (mLc (mRng1 (aCons (mOp oMul (mCall F_law_take 1 (rOwn 0 (rCons (mC (.int 3)) rNil))) (mCall F_law_take 1 (rOwn 0 (rCons (mC (.int 8)) rNil)))) aNil)) (mgName 5) mYes (mOp oIx (mVar 4) (mCall F_law_take 1 (rOwn 0 (rCons (mC (.int 14)) rNil)))) [5]))))
theorem say_s {E : Dn} {c a1 a2 a3 : Cell} (p : PL c) (h : ∀ x c' cs, PL c' → E.rt x (c' :: cs)) : say_b E [c, a1, a2, a3, .un, .un] := by
  have s : 1000 ≤ sizeLine := by decide
  refine set_ev ev_c (ret_st ?_)
  refine join_st (lc_st (rng_st (a_st (op_st (call_take (j := 0) (n := 3) rfl p (fun k' q => q) (by decide) (by decide) fun u c' u0 u1 p' => ?_)))))
  refine call_take (j := 0) (n := 8) rfl p' (fun k' q => q) (by decide) (by decide) fun v c2 v0 v1 p2 => ?_
  have uv : 0 ≤ u * v ∧ u * v ≤ 14 := by
    have : u = 0 ∨ u = 1 ∨ u = 2 := by omega
    rcases this with rfl | rfl | rfl <;> omega
  generalize hw : u * v = w at uv
  have ln : (intsD 0 w.toNat).length = w.toNat := by unfold intsD; rw [List.length_map, List.length_range]
  refine (show ((-(2 ^ 64) < u ∧ u < 2 ^ 64) ∨ (-(2 ^ 64) < v ∧ v < 2 ^ 64)) ∧ -(2 ^ 62) ≤ u * v ∧ u * v < 2 ^ 62 ∧ (intsD 0 (u * v).toNat).length ≤ sizeLine ∧ mLcL (mgName 5) mYes (mOp oIx (mVar 4) (mCall F_law_take 1 (rOwn 0 (rCons (mC (.int 14)) rNil)))) [5] _ (intsD 0 (u * v).toNat) (([] : List Str).map .str) [c2, a1, a2, a3, .fro (.str sg), .un] from ?_)
  rw [hw]
  refine ⟨.inl ⟨by omega, by omega⟩, by omega, by omega, by omega, ?_⟩
  refine signs_L (intsD 0 w.toNat) [] c2 p2 (fun _ z => nomatch z) fun ys c3 p3 l hy => ?_
  have o2 := ones_sum hy
  have ey : (seqOf (.list (ys.map D.str))).bind strsOf = some ys := strsOf_map ys
  show match (seqOf (.list (ys.map D.str))).bind strsOf with | some ys => _ | none => False
  rw [ey]
  rw [ln] at l
  have l' : ys.length = w.toNat := by simpa using l
  refine ⟨?_, h _ _ _ p3⟩
  show (ys.map (·.length)).sum + ys.length * 0 ≤ 16777216
  omega
def begin_b : ME := (mTup (aCons (mOp oAdd (mC (.int 1)) (mCall F_law_take 1 (rOwn 0 (rCons (mC (.int 2)) rNil)))) (aCons (mOp oIx (mLst (aCons (mC .none) (aCons (mTupZ (aCons (mC (.str "old")) (aCons (mCall F_law_take 1 (rOwn 0 (rCons (mC (.int 9)) rNil))) aNil))) aNil))) (mCall F_law_take 1 (rOwn 0 (rCons (mC (.int 2)) rNil)))) aNil)))
theorem begin_s {c a1 a2 a3 a4 a5 : Cell} {k : D → Cs → Prop} (p : PL c) (h : ∀ x c', PL c' → k x [c', a1, a2, a3, a4, a5]) : begin_b [c, a1, a2, a3, a4, a5] k := by
  have s : 1000 ≤ sizeLine := by decide
  refine tup_st (a_st (op_st (ev_c _ (call_take (j := 0) (n := 2) rfl p (fun k' q => q) (by decide) (by decide) fun u c' u0 u1 p' => ?_))))
  refine (show aCons (mOp oIx (mLst (aCons (mC .none) (aCons (mTupZ (aCons (mC (.str "old")) (aCons (mCall F_law_take 1 (rOwn 0 (rCons (mC (.int 9)) rNil))) aNil))) aNil))) (mCall F_law_take 1 (rOwn 0 (rCons (mC (.int 2)) rNil)))) aNil [c', a1, a2, a3, a4, a5] (fun ds ρ2 => (.int (1 + u) :: ds).length ≤ sizeLine ∧ k (.tuple .mad (.int (1 + u) :: ds)) ρ2) from ?_)
  refine a_st (op_st (lst_st (a_st (ev_c _ (a_st (tupZ_st (a_st (ev_c _ (a_st (call_take (j := 0) (n := 9) rfl p' (fun k' q => q) (by decide) (by decide) fun v c2 v0 v1 p2 => ?_))))))))))
  refine (show 2 ≤ sizeLine ∧ 2 ≤ sizeLine ∧ _ from ⟨by omega, by omega, ?_⟩)
  refine call_take (j := 0) (n := 2) rfl p2 (fun k' q => q) (by decide) (by decide) fun x c3 x0 x1 p3 => ?_
  have : x = 0 ∨ x = 1 := by omega
  rcases this with rfl | rfl
  · exact (show 2 ≤ sizeLine ∧ _ from ⟨by omega, h _ _ p3⟩)
  · exact (show 2 ≤ sizeLine ∧ _ from ⟨by omega, h _ _ p3⟩)
theorem content_s {a b d e : Str} (f : Fo a b d e) {c : Cell} {so : Str} {t : D} {k : D → List Cell → Prop} (p : PL c) (h : ∀ x c', PL c' → Cont so x → k x [c']) : F_law_content [c, .fro (.str so), .fro (fo a b d e), .fro t] k := by
  have s : 1000 ≤ sizeLine := by decide
  refine Fof.mk rfl ?_
  have e : ∀ m : Str, EvT (mTest (mOp oEq (mVar 1) (mC (.str m)))) [c, .fro (.str so), .fro (fo a b d e), .fro t, .un, .un] (decide (so = m)) := fun m => evt_test (ev_op (a := .str so) (b := .str m) (ev_var rfl) ev_c fun k q => q)
  refine ifs_s (e "begin") (fun q => ret_st (begin_s p fun x c' p' => h x c' p' (cont_no q (by decide +kernel) (by decide +kernel) (by decide +kernel)))) (fun q1 => ?_)
  refine ifs_s (e "seat") (fun q => ?_) (fun q2 => ?_)
  · refine ret_st (op_st (ev_lst (ds := (["in", "out", "called", "barred"] : List Str).map .str) (eva_cons ev_c (eva_cons ev_c (eva_cons ev_c (eva_cons ev_c eva_nil)))) (Nat.le_of_ble_eq_true rfl) _ (call_take (j := 0) (n := 4) rfl p (fun k' q => q) (by decide) (by decide) fun u c' u0 u1 p' => pick u0 u1 fun x hx => h x c' p' ?_)))
    obtain ⟨y, _, rfl⟩ := List.mem_map.mp hx
    have e := of_decide_eq_true q
    exact ⟨fun _ => ⟨y, rfl⟩, fun h => absurd (e.symm.trans h) (by decide +kernel), fun h => absurd (e.symm.trans h) (by decide +kernel)⟩
  refine ifs_s (e "ranks") (fun q => ?_) (fun q3 => ?_)
  · obtain ⟨i, j, rfl, p'⟩ := id p
    have e := of_decide_eq_true q
    refine ret_st (call_j (j := 0) (x := .list [.int i, .int j]) (m := mVar 2) rfl (show Aft F_law_rank_rows 0 _ (fo a b d _) [_, .fro (.str so), .fro (fo a b d _), .fro t, .un, .un] from aft (x := .list [.int i, .int j]) rfl (rows_s (zs := [a, b, d, _]) p (Nat.le_refl 4) f.zs fun us ws c' pc hu nu hw hq => h _ c' pc ⟨fun h => absurd (e.symm.trans h) (by decide +kernel), fun h => absurd (e.symm.trans h) (by decide +kernel), fun _ => ⟨us, ws, rfl, fun u hm => ?_, hw, ?_⟩⟩)))
    · obtain ⟨c, z, i, e, _, i0, _⟩ := hu u hm
      exact ⟨c, z, i, e, i0⟩
    · have wl : PyData.bulkAll (toPys [.tuple .frz us, .tuple .frz ws]) ≤ 5000 := hq.bk
      have b2 := bulk_mem (ds := [.tuple .frz us, .tuple .frz ws]) (d := .tuple .frz us) (by simp)
      have b2 : PyData.bulkAll (toPys us) ≤ _ := b2
      have l1 := bulk_len us
      omega
  refine ifs_s (e "door") (fun q => ?_) (fun q4 => ?_)
  · refine ret_st (op_st (ev_lst (eva_cons ev_c (eva_cons ev_c eva_nil)) (Nat.le_of_ble_eq_true rfl) _ (call_take (j := 0) (n := 2) rfl p (fun k' q => q) (by decide) (by decide) fun u c' u0 u1 p' => pick u0 u1 fun x hx => h x c' p' (cont_no q (by decide +kernel) (by decide +kernel) (by decide +kernel)))))
  refine ifs_s (e "say") (fun q => say_s p fun x c' cs p' => h x c' p' (cont_no q (by decide +kernel) (by decide +kernel) (by decide +kernel))) (fun q5 => ?_)
  refine ifs_s (e "strike") (fun q => ?_) (fun q6 => ?_)
  · have e := of_decide_eq_true q
    refine ret_st (tup_st (a_st (op_st (ev_lst (ds := (["a", "zz"] : List Str).map .str) (eva_cons ev_c (eva_cons ev_c eva_nil)) (Nat.le_of_ble_eq_true rfl) _ (call_take (j := 0) (n := 2) rfl p (fun k' q => q) (by decide) (by decide) fun u c' u0 u1 p' => pick u0 u1 fun x hx => ?_)))))
    obtain ⟨y, _, rfl⟩ := List.mem_map.mp hx
    refine a_st (call_take (j := 0) (n := 200) rfl p' (fun k' q => q) (by decide) (by decide) fun v c2 v0 v1 p2 => ?_)
    exact (show 2 ≤ sizeLine ∧ _ from ⟨by omega, h _ _ p2 ⟨fun h => absurd (e.symm.trans h) (by decide +kernel), fun _ => ⟨_, _, _, rfl⟩, fun h => absurd (e.symm.trans h) (by decide +kernel)⟩⟩)
  · refine ret_st (op_st (ev_c _ (call_take (j := 0) (n := 2) rfl p (fun k' q => q) (by decide) (by decide) fun u c' u0 u1 p' => h _ _ p' ⟨fun h => absurd h (of_decide_eq_false q2), fun h => absurd h (of_decide_eq_false q6), fun h => absurd h (of_decide_eq_false q3)⟩)))
theorem item_s {ps : List (D × D)} {so z h : Str} {ot co : D} (p : Pn z h) : ∃ f : D, ∀ k : D → List Cell → Prop, k (.tuple .mad [.tuple .frz [.str h, .int 900], .str so, .str z, ot, co, f, f]) [] →
    F_law_item [.fro (.dict ps), .fro (.str so), .fro (.str z), .fro ot, .fro co] k := by
  refine ⟨.tuple .frz (Dl.cutD (ps.map (·.1)) none (some (if so = "begin" then 0 else 1))), fun k hk => Fof.mk rfl ?_⟩
  obtain ⟨⟨a, e⟩, l⟩ := p
  have n1 : ((Str.ofString "@").length == 0) = false := by decide
  have n2 : ((Str.ofString "@").length = 0) = False := by decide
  have s2 : 2 ≤ sizeLine := by decide
  have s7 : 7 ≤ sizeLine := by decide
  by_cases ne : so = "begin"
  · have ne' : decide (so = (Str.ofString "begin")) = true := decide_eq_true ne
    rw [if_pos ne] at hk
    simp [b_law_item, ↓sSeq, ↓sSet, ↓mTup, ↓mTupZ, ↓aCons, ↓aNil, ↓mOp, ↓mSplit, ↓mVar, ↓mC, e, l, n1, n2, ↓oIx, atI, ixN, ↓mUn, ↓oInt, ↓oNe, s2, s7, ↓mSlice, ↓oKeys, ↓oSlice, ↓pNo, ↓pSome, ↓oTupOf, ↓sRet, ne']
    exact hk
  · have ne' : decide (so = (Str.ofString "begin")) = false := decide_eq_false ne
    rw [if_neg ne] at hk
    simp [b_law_item, ↓sSeq, ↓sSet, ↓mTup, ↓mTupZ, ↓aCons, ↓aNil, ↓mOp, ↓mSplit, ↓mVar, ↓mC, e, l, n1, n2, ↓oIx, atI, ixN, ↓mUn, ↓oInt, ↓oNe, s2, s7, ↓mSlice, ↓oKeys, ↓oSlice, ↓pNo, ↓pSome, ↓oTupOf, ↓sRet, ne']
    exact hk
end K20

namespace K20
open PySem PySem.Spec PyProof.Rows L2 Br Dl K12
/-! the law's pieces -/
theorem strOk_st {z : Str} (h : okSt z) : PyData.strOk z = true := by
  unfold PyData.strOk
  rw [← Array.all_toList]
  exact List.all_eq_true.mpr fun c hc => decide_eq_true (h c hc)
theorem any_none : ∀ {es : List D}, es.all isTT = true → (es.any fun z => Dl.eqd z .none) = false
  | [], _ => rfl
  | u :: us, h => by
    rw [List.all_cons, Bool.and_eq_true] at h
    obtain ⟨c, x, y, rfl, e⟩ := isTT_at h.1
    show (false || us.any fun z => Dl.eqd z .none) = false
    rw [any_none h.2]; rfl
/-- None is no key -/
theorem in_none {es : List D} (h : es.all isTT = true) (hs : ∀ u ∈ es, PyData.strOk (ttOf u).1 = true ∧ PyData.strOk (ttOf u).2 = true) {k : D → Prop} (q : k (.bool false)) : oIn false .none (.list es) k := by
  obtain ⟨i1, i2, i3⟩ := tt_lay h hs
  have s : shp (.list es) := by
    show (PyData.canLayAll0 (toPys es) && decide (PyData.depthAll (toPys es) + 1 ≤ 64)) = true
    rw [i1, decide_eq_true (by omega)]; rfl
  have sn : shp .none := by unfold shp; decide +kernel
  have an := any_none h
  cases es with
  | nil => exact q
  | cons u us =>
    obtain ⟨c, x, y, rfl, e⟩ := isTT_at (List.all_eq_true.mp h u List.mem_cons_self)
    show (if (flatD .none && ((.tuple c [.str x, .str y] : D) :: us).all flatD) = true then k (.bool (memD .none ((.tuple c [.str x, .str y] : D) :: us) != false)) else shp .none ∧ shp (.list (.tuple c [.str x, .str y] :: us)) ∧ k (.bool ((((.tuple c [.str x, .str y] : D) :: us).any fun z => Dl.eqd z .none) != false)))
    rw [if_neg (by simp [flatD]), an]
    exact ⟨sn, s, q⟩
/-- names, with texts -/
def Nk (d : D) : Prop := ∃ c x i, d = .tuple c [.str x, .int i] ∧ PyData.strOk x = true
theorem nk_lay : ∀ {ds : List D}, (∀ d ∈ ds, Nk d) → PyData.canLayAll0 (toPys ds) = true ∧ PyData.depthAll (toPys ds) ≤ 1
  | [], _ => ⟨rfl, Nat.zero_le _⟩
  | u :: us, h => by
    obtain ⟨h1, h2⟩ := nk_lay (ds := us) fun x hx => h x (List.mem_cons_of_mem _ hx)
    obtain ⟨c, z, i, rfl, hz⟩ := h u List.mem_cons_self
    refine ⟨?_, ?_⟩
    · show ((PyData.strOk z && (true && true)) && PyData.canLayAll0 (toPys us)) = true
      rw [hz, h1]; rfl
    · show max (max 0 (max 0 0) + 1) (PyData.depthAll (toPys us)) ≤ 1
      omega
theorem nk_ne {ds : List D} (h : ∀ d ∈ ds, Nk d) {k : D → Prop} (q : k (.bool false)) : oNe (.tuple .frz ds) (.tuple .frz ds) k := by
  obtain ⟨h1, h2⟩ := nk_lay h
  have s : shp (.tuple .frz ds) := by
    show (PyData.canLayAll0 (toPys ds) && decide (PyData.depthAll (toPys ds) + 1 ≤ 64)) = true
    rw [h1, decide_eq_true (by omega)]; rfl
  refine ⟨s, s, ?_⟩
  rw [show Dl.eqd (.tuple .frz ds) (.tuple .frz ds) = true from SeqAt.eqvAll_refl _ h1]
  exact q
/-- what bars: None, or a text -/
def Vd (V : D) : Prop := V = .none ∨ ∃ x, V = .str x
theorem vd_ne {V : D} (h : Vd V) {k : D → Prop} (q : k (.bool false)) : oNe V V k := by
  rcases h with rfl | ⟨x, rfl⟩
  · have sn : shp .none := by unfold shp; decide +kernel
    exact ⟨sn, sn, q⟩
  · show k (.bool (!decide (x = x)))
    rw [decide_eq_true rfl]; exact q
theorem vd_n : Vd .none := .inl rfl
theorem vd_s {x : Str} : Vd (.str x) := .inr ⟨x, rfl⟩
theorem vd_if {p : Prop} [Decidable p] {a b : D} (h : Vd a) (g : Vd b) : Vd (if p then a else b) := by split <;> assumption
section
variable {ps st : List (D × D)}
theorem vd_less {z w : Str} : Vd (lessV ps st z w) := vd_if vd_s vd_n
theorem vd_putA {z ab w : Str} : Vd (putA ps st z ab w) := vd_if vd_less vd_less
theorem vd_seats {z ab y : Str} : Vd (seatsW ps st z ab y) :=
  vd_if (vd_if vd_s (vd_if vd_s (vd_if vd_n vd_s))) (vd_if (vd_if vd_n vd_s) (vd_if vd_s (vd_if (vd_if vd_s (vd_if vd_s vd_less)) (vd_if vd_s vd_putA))))
theorem vd_bar {so z ab h : Str} {co V : D} (v : Vd V) : Vd (barW ps st so z ab h co V) :=
  vd_if (vd_if vd_s vd_n) (vd_if vd_s (vd_if vd_seats (vd_if vd_s (vd_if v (vd_if (vd_if vd_n vd_less) vd_less)))))
theorem vd_ranks {R B : D} {z : Str} {us ws : List D} {zs : List Str} : Vd (ranksV R B z us ws zs) := vd_if vd_s (vd_if vd_s (vd_if vd_s vd_n))
end
section
variable {fs : List Str} {ps st : List (D × D)} (g : HI fs ps st)
include g
/-- the rule that bars, of a deed as the law draws it -/
theorem bar_ex {so z ab h : Str} {co : D} (p : Pn z h) (hc : Cont so co) (l : st.length ≤ 105) : ∃ V, Vd V ∧ ∀ (c : Tk) (nm f1 f2 : D) (k : D → List Cell → Prop), k V [] → F_bar [.fro (.dict ps), .fro (.dict st), .fro (.tuple c [nm, .str so, .str z, .str ab, co, f1, f2])] k := by
  have s : 1000 ≤ sizeLine := by decide
  have hr : ∃ V, Vd V ∧ (so = "ranks" → lkS st "begin" "" ≠ none → ∀ k : D → List Cell → Prop, k V [] → F_bar_ranks [.fro (.dict ps), .fro (.dict st), .fro (.str z), .fro co] k) := by
    by_cases e : so = "ranks"
    · obtain ⟨us, ws, rfl, hu, hw, hl⟩ := hc.2.2 e
      rcases dOf_cases g.toGH "begin" "" with ⟨b, _⟩ | ⟨c2, hh2, i2, e2', t2, so2, wh2, ot2, to2, fi2, fi2', b, _, b1, _⟩
      · exact ⟨.none, vd_n, fun _ n => absurd b n⟩
      · obtain ⟨c', us0, w0, T⟩ := told_is g
        obtain ⟨zs1, zs2, e1, e2, l1, l2, _⟩ := zs_s g T hu b1
        exact ⟨ranksV (bOf (dOf ps st "ranks" "") .none) (dOf ps st "begin" "") z us ws (zs1 ++ zs2), vd_ranks, fun _ _ k q => bar_ranks_s g.toGH hu hw e1 e2 (by omega) q⟩
    · exact ⟨.none, vd_n, fun h => absurd h e⟩
  obtain ⟨V, v, hV⟩ := hr
  exact ⟨barW ps st so z ab h co V, vd_bar v, fun c nm f1 f2 k q => bar_sW g.toGH p hc.1 (fun e => by obtain ⟨c, y, i, rfl⟩ := hc.2.1 e; exact ⟨_, _, _, rfl⟩) (fun e n => hV e n) (by omega) k q⟩
theorem nms_nk {ks : List (Str × Str)} : ∀ d ∈ nmsK st ks, Nk d := fun d m => by
  obtain ⟨p, _, e⟩ := List.mem_filterMap.mp m
  obtain ⟨c, x, i, _, _, _, _, _, _, _, _, rfl, h2, _⟩ := g.at_ _ _ _ e
  obtain ⟨q, hq, ek, _⟩ := look_mem (show look kOf (.inr [.inr x, .inl i]) ps = some _ from h2)
  obtain ⟨h', i', e1, _⟩ := g.nm q hq
  have e2 := ek
  rw [e1] at e2
  have e2 := Option.some.inj e2
  injection e2 with e2
  injection e2 with e2 _
  injection e2 with e2
  subst e2
  exact ⟨c, _, i, rfl, strOk_st (g.hs q hq _ _ _ e1)⟩
end
theorem own3_j {F : Fs} {j : Nat} {ma mb mc : ME} {a b c x : D} {ρ : Cs} {k : D → Cs → Prop} (h0 : ρ[j]? = some (.own x)) (ha : Ev ma ρ a) (hb : Ev mb ρ b) (hc : Ev mc ρ c) (q : F [.own x, .fro a, .fro b, .fro c] fun d cs' => k d (putBack ρ [.inl j, .inr a, .inr b, .inr c] cs')) : mCall F 1 (rOwn j (rCons ma (rCons mb (rCons mc rNil)))) ρ k := by
  show mOwn j ρ (fun _ _ => ma ρ fun da ρ1 => mb ρ1 fun db ρ2 => mc ρ2 fun dc ρ3 => (slotsOf [.inl j, .inr da, .inr db, .inr dc]).Nodup ∧ slotsOf ([.inr da, .inr db, .inr dc] : List Ar) = [] ∧ match cellsOf ρ3 [.inl j, .inr da, .inr db, .inr dc] with | some cs => F cs fun d cs' => k d (putBack ρ3 [.inl j, .inr da, .inr db, .inr dc] cs') | none => False)
  unfold mOwn
  rw [h0]
  have e : cellsOf ρ [.inl j, .inr a, .inr b, .inr c] = some [.own x, .fro a, .fro b, .fro c] := by simp [cellsOf, h0]
  refine ha _ (hb _ (hc _ ⟨by simp [slotsOf], rfl, ?_⟩))
  rw [e]
  exact q
/-- all that was put in, each once, sorted: both ways alike -/
theorem dd_two {acc ds ts : List D} (dd : Dd acc ds) (dt : Dd acc ts) (nd : (acc.map prOf).Nodup) (ip : ∀ d ∈ acc, isPr d = true) (pw : ds.Pairwise (fun x y => ltN (prOf y) (prOf x) = false)) (pu : ts.Pairwise (fun x y => ltN (prOf y) (prOf x) = false)) : ds = ts := by
  have inj : ∀ a ∈ acc, ∀ b ∈ acc, prOf a = prOf b → a = b := by
    clear dd dt
    induction acc with
    | nil => intro a h; cases h
    | cons x acc ih =>
      rw [List.map_cons, List.nodup_cons] at nd
      intro a ha b hb e
      rcases List.mem_cons.mp ha with ea | ma
      · rcases List.mem_cons.mp hb with eb | mb
        · rw [ea, eb]
        · exact absurd (List.mem_map.mpr ⟨b, mb, by rw [← e, ea]⟩) nd.1
      · rcases List.mem_cons.mp hb with eb | mb
        · exact absurd (List.mem_map.mpr ⟨a, ma, by rw [e, eb]⟩) nd.1
        · exact ih nd.2 (fun d m => ip d (List.mem_cons_of_mem _ m)) a ma b mb e
  have pa : ∀ es : List D, Dd acc es → es.Perm acc := fun es ⟨d1, d2, d3⟩ => by
    have nds : es.Nodup := List.Pairwise.of_map prOf (fun _ _ ne e => ne (congrArg prOf e)) d3
    have nda : acc.Nodup := List.Pairwise.of_map prOf (fun _ _ ne e => ne (congrArg prOf e)) nd
    exact (List.perm_ext_iff_of_nodup nds nda).mpr fun d => ⟨d1 d, fun m => by
      obtain ⟨d', hd, e⟩ := List.mem_map.mp (d2 d m)
      rw [← inj d' (d1 d' hd) d m e]
      exact hd⟩
  exact dd_same dd nd ip pw (pa ts dt) pu
end K20

namespace K20
open PySem PySem.Spec PyProof.Rows L2 Br Dl K12
theorem keysV_ok {so z ab y : Str} (h1 : PyData.strOk z = true) (h2 : PyData.strOk ab = true) : ∀ p ∈ keysV so z ab y, PyData.strOk p.1 = true ∧ PyData.strOk p.2 = true := by
  have l1 : PyData.strOk ("begin" : Str) = true := by decide +kernel
  have l2 : PyData.strOk ("ranks" : Str) = true := by decide +kernel
  have l3 : PyData.strOk ("seat" : Str) = true := by decide +kernel
  have l4 : PyData.strOk ("door" : Str) = true := by decide +kernel
  have l5 : PyData.strOk ("" : Str) = true := by decide +kernel
  intro p hp
  unfold keysV at hp
  split at hp
  · cases hp
  · rcases List.mem_append.mp hp with hp | hp
    · rcases List.mem_append.mp hp with hp | hp
      · simp at hp
        rcases hp with rfl | rfl | rfl
        · exact ⟨l1, l5⟩
        · exact ⟨l2, l5⟩
        · exact ⟨l3, h1⟩
      · split at hp
        · rw [List.mem_singleton.mp hp]; exact ⟨l3, h2⟩
        · cases hp
    · split at hp
      · rw [List.mem_singleton.mp hp]; exact ⟨l4, l5⟩
      · cases hp
abbrev W (ns : List Int) (c1 c2 c3 c4 c5 c6 c7 c8 c9 c10 c11 c12 : Cell) : Cs := [.fro (.scr ns), c1, c2, c3, c4, c5, c6, c7, c8, c9, c10, c11, c12]
def one_of : ME := (mOp oIx (mVar 3) (mCall F_law_take 1 (rOwn 2 (rCons (mC (.int 4)) rNil))))
def ab_e : ME := (mOp oIx (mLst (aCons (mC (.str "")) (aCons one_of aNil))) (mUn oInt (mOp oEq (mVar 6) (mC (.str "seat")))))
def co_e : ME := (mCall F_law_content 1 (rOwn 2 (rCons (mVar 6) (rCons (mVar 3) (rCons (mC .none) rNil)))))
def it_e : ME := (mCall F_law_item 0 (rCons (mVar 4) (rCons (mVar 6) (rCons (mVar 7) (rCons (mVar 8) (rCons (mVar 9) rNil))))))
def fd_e : ME := (mCallKF F_keys_for [3, 2, 1, 0] (aCons (mVar 9) (aCons (mVar 8) (aCons (mVar 7) (aCons (mVar 6) aNil)))))
def kf_e : ME := (mCallF F_keys_for (aCons (mVar 6) (aCons (mVar 7) (aCons (mVar 8) (aCons (mVar 9) aNil)))))
def if_a : MS := ret0 (mTest (mOpO oNe 11 kf_e))
def if_b : MS := ret0 (mTest (mOp (oIn false) (mC .none) kf_e))
def lv_e : ME := (mCall F_leave_for 0 (rCons (mVar 5) (rCons (mVar 6) (rCons (mVar 7) (rCons (mVar 8) (rCons (mVar 9) rNil))))))
def lk_e : ME := (mCallK F_leave_for [4, 0, 1, 2, 3] (aCons (mVar 6) (aCons (mVar 7) (aCons (mVar 8) (aCons (mVar 9) (aCons (mVar 5) aNil))))))
def if_c : MS := ret0 (mTest (mOp oNe lk_e (mVar 12)))
def bk_e : ME := (mCallK F_bar [2, 1, 0] (aCons (mVar 10) (aCons (mVar 5) (aCons (mVar 4) aNil))))
def bp_e : ME := (mCall F_bar 0 (rCons (mVar 4) (rCons (mVar 5) (rCons (mVar 10) rNil))))
def if_d : MS := ret0 (mTest (mOp oNe bk_e bp_e))
def sort_tail : MS := (sSeq (sSet 12 lv_e) (sSeq if_c if_d))
def sort_mid : MS := (sSeq (sSetO 11 fd_e) (sSeq if_a (sSeq (sAppend 11 (mC .none)) (sSeq if_b sort_tail))))
def sort_body : MS := (sSeq (sSet 7 one_of) (sSeq (sSet 8 ab_e) (sSeq (sSet 9 co_e) (sSeq (sSet 10 it_e) sort_mid))))
def sorts_e : ME := (mLst (aCons (mC (.str "begin")) (aCons (mC (.str "seat")) (aCons (mC (.str "seat")) (aCons (mC (.str "ranks")) (aCons (mC (.str "door")) (aCons (mC (.str "say")) (aCons (mC (.str "strike")) (aCons (mC (.str "move")) aNil)))))))))
def law_body : MS := (sSeq (sSetO 2 (mCallF F_law_pool (aCons (mVar 0) (aCons (mVar 1) aNil)))) (sSeq (sSet 3 (mCall F_law_folk 1 (rOwn 2 (rCons (mC (.int 4)) rNil)))) (sSeq (mFro 5 (mFro 4 (sTwo F_law_hall 1 (rOwn 2 (rCons (mVar 3) rNil)) 4 5))) (sFor (mItems dLst sorts_e) (mgName 6) sort_body))))
theorem law_eq : b_law = sSeq (sFor (mRng1 (aCons (mOn oMax (aCons (mC (.int 1)) (aCons (mOn oMin (aCons (mUn oLen (mVar 0)) (aCons (mC (.int 10)) aNil))) aNil))) aNil)) (mgName 1) law_body) (sRet (mC (.bool true))) := rfl
section
variable {ns : List Int} {c1 c2 c4 c5 c6 c7 c8 c9 c10 c11 c12 : Cell} {a b d e : Str}
theorem one_s (f : Fo a b d e) {k : D → Cs → Prop} (p : PL c2) (h : ∀ z c', Pd z → PL c' → k (.str z) (W ns c1 c' (.fro (fo a b d e)) c4 c5 c6 c7 c8 c9 c10 c11 c12)) : one_of (W ns c1 c2 (.fro (fo a b d e)) c4 c5 c6 c7 c8 c9 c10 c11 c12) k :=
  op_var (i := 3) rfl (call_take (j := 2) (n := 4) rfl p (fun _ z => z) (by decide) (by decide) fun t c' t0 t1 p' => four_at f t0 t1 fun z pz => h z c' pz.1 p')
theorem ab_s (f : Fo a b d e) {so : Str} {k : D → Cs → Prop} (p : PL c2) (h : ∀ ab c', PyData.strOk ab = true → PL c' → k (.str ab) (W ns c1 c' (.fro (fo a b d e)) c4 c5 (.fro (.str so)) c7 c8 c9 c10 c11 c12)) : ab_e (W ns c1 c2 (.fro (fo a b d e)) c4 c5 (.fro (.str so)) c7 c8 c9 c10 c11 c12) k := by
  have s : 1000 ≤ sizeLine := by decide
  refine op_st (lst_st (a_st ?_))
  show aCons one_of aNil (W ns c1 c2 (.fro (fo a b d e)) c4 c5 (.fro (.str so)) c7 c8 c9 c10 c11 c12) (fun ds ρ2 => (D.str "" :: ds).length ≤ sizeLine ∧ mUn oInt (mOp oEq (mVar 6) (mC (.str "seat"))) ρ2 fun db ρ3 => oIx (.list (D.str "" :: ds)) db fun d => k d ρ3)
  refine a_st (one_s f p fun z c' pz p' => ?_)
  refine ⟨(show 2 ≤ sizeLine by omega), ?_⟩
  have ei : Ev (mUn oInt (mOp oEq (mVar 6) (mC (.str "seat")))) (W ns c1 c' (.fro (fo a b d e)) c4 c5 (.fro (.str so)) c7 c8 c9 c10 c11 c12) (.int (if decide (so = "seat") = true then 1 else 0)) := ev_un (ev_op (ev_var rfl) ev_c fun k q => q) fun k q => by
    cases hb : decide (so = "seat") <;> rw [hb] at q <;> exact q
  refine ei _ ?_
  by_cases hb : so = "seat"
  · rw [if_pos (decide_eq_true hb)]
    exact h z c' (K12.Pd.ok pz) p'
  · rw [if_neg (by simpa using hb)]
    exact h "" c' (by decide +kernel) p'
theorem co_s (f : Fo a b d e) {so : Str} {k : D → Cs → Prop} (p : PL c2) (h : ∀ co c', Cont so co → PL c' → k co (W ns c1 c' (.fro (fo a b d e)) c4 c5 (.fro (.str so)) c7 c8 c9 c10 c11 c12)) : co_e (W ns c1 c2 (.fro (fo a b d e)) c4 c5 (.fro (.str so)) c7 c8 c9 c10 c11 c12) k := by
  obtain ⟨i, j, rfl, p'⟩ := id p
  exact own3_j (j := 2) (x := .list [.int i, .int j]) rfl (ev_var (d := .str so) rfl) (ev_var (d := fo a b d e) rfl) ev_c (content_s f p fun x c' p' hc => h x c' hc p')
end
theorem callF_eva {F : Ff} {ma : MA} {ρ : Cs} {ds : List D} {k : D → Cs → Prop} (h : EvA ma ρ ds) (q : F ds fun d => k d ρ) : mCallF F ma ρ k := h _ q
theorem callKF_eva {F : Ff} {is : List Nat} {ma : MA} {ρ : Cs} {ds es : List D} {k : D → Cs → Prop} (h : EvA ma ρ ds) (hl : ds.length = is.length) (he : perm is ds = es) (q : F es fun d => k d ρ) : mCallKF F is ma ρ k := h _ ⟨hl, by rw [he]; exact q⟩
theorem callK_eva {F : Fs} {is : List Nat} {ma : MA} {ρ : Cs} {ds es : List D} {k : D → Cs → Prop} (h : EvA ma ρ ds) (hl : ds.length = is.length) (he : perm is ds = es) (q : F (es.map .fro) fun d _ => k d ρ) : mCallK F is ma ρ k := h _ ⟨hl, by rw [he]; exact q⟩
section
variable {ns : List Int} {c1 c2 c3 c10 : Cell} {fs : List Str} {ps st : List (D × D)} {so z ab y : Str} {co : D}
theorem kf_s {c11 c12 : Cell} (hy : so = "seat" → co = .str y) {k : D → Cs → Prop} (q : ∀ ds, KD ds (keysV so z ab y) → k (.list ds) (W ns c1 c2 c3 (.fro (.dict ps)) (.fro (.dict st)) (.fro (.str so)) (.fro (.str z)) (.fro (.str ab)) (.fro co) c10 c11 c12)) :
    kf_e (W ns c1 c2 c3 (.fro (.dict ps)) (.fro (.dict st)) (.fro (.str so)) (.fro (.str z)) (.fro (.str ab)) (.fro co) c10 c11 c12) k :=
  callF_eva (ds := [.str so, .str z, .str ab, co]) (eva_cons (ev_var rfl) (eva_cons (ev_var rfl) (eva_cons (ev_var rfl) (eva_cons (ev_var rfl) eva_nil)))) (keys_for_s hy fun ds kd => q ds kd)
theorem fd_s {c11 c12 : Cell} (hy : so = "seat" → co = .str y) {k : D → Cs → Prop} (q : ∀ ds, KD ds (keysV so z ab y) → k (.list ds) (W ns c1 c2 c3 (.fro (.dict ps)) (.fro (.dict st)) (.fro (.str so)) (.fro (.str z)) (.fro (.str ab)) (.fro co) c10 c11 c12)) :
    fd_e (W ns c1 c2 c3 (.fro (.dict ps)) (.fro (.dict st)) (.fro (.str so)) (.fro (.str z)) (.fro (.str ab)) (.fro co) c10 c11 c12) k :=
  callKF_eva (ds := [co, .str ab, .str z, .str so]) (es := [.str so, .str z, .str ab, co]) (eva_cons (ev_var rfl) (eva_cons (ev_var rfl) (eva_cons (ev_var rfl) (eva_cons (ev_var rfl) eva_nil)))) rfl rfl (keys_for_s hy fun ds kd => q ds kd)
theorem kd_ok (sz : PyData.strOk z = true) (sa : PyData.strOk ab = true) {ds : List D} (kd : KD ds (keysV so z ab y)) : ∀ u ∈ ds, PyData.strOk (ttOf u).1 = true ∧ PyData.strOk (ttOf u).2 = true := fun u hu =>
  keysV_ok sz sa _ (by rw [← kd.2]; exact List.mem_map.mpr ⟨u, hu, rfl⟩)
theorem a_s {E : Dn} {c12 : Cell} (hy : so = "seat" → co = .str y) (sz : PyData.strOk z = true) (sa : PyData.strOk ab = true) {ds : List D} (kd : KD ds (keysV so z ab y)) (q : E.nx (W ns c1 c2 c3 (.fro (.dict ps)) (.fro (.dict st)) (.fro (.str so)) (.fro (.str z)) (.fro (.str ab)) (.fro co) c10 (.own (.list ds)) c12)) :
    if_a E (W ns c1 c2 c3 (.fro (.dict ps)) (.fro (.dict st)) (.fro (.str so)) (.fro (.str z)) (.fro (.str ab)) (.fro co) c10 (.own (.list ds)) c12) := by
  refine ret0_s (fun k q => ?_) q
  show kf_e (W ns c1 c2 c3 (.fro (.dict ps)) (.fro (.dict st)) (.fro (.str so)) (.fro (.str z)) (.fro (.str ab)) (.fro co) c10 (.own (.list ds)) c12) (fun db ρ2 => mOwn 11 ρ2 fun da _ => oNe da db fun d => (match d with | .bool b => k b ρ2 | _ => False))
  refine kf_s hy fun es ke => ?_
  show oNe (.list ds) (.list es) fun d => (match d with | .bool b => k b (W ns c1 c2 c3 (.fro (.dict ps)) (.fro (.dict st)) (.fro (.str so)) (.fro (.str z)) (.fro (.str ab)) (.fro co) c10 (.own (.list ds)) c12) | _ => False)
  exact tt_ne kd.1 ke.1 (kd.2.trans ke.2.symm) (kd_ok sz sa kd) q
theorem b_s {E : Dn} {c11 c12 : Cell} (hy : so = "seat" → co = .str y) (sz : PyData.strOk z = true) (sa : PyData.strOk ab = true) (q : E.nx (W ns c1 c2 c3 (.fro (.dict ps)) (.fro (.dict st)) (.fro (.str so)) (.fro (.str z)) (.fro (.str ab)) (.fro co) c10 c11 c12)) :
    if_b E (W ns c1 c2 c3 (.fro (.dict ps)) (.fro (.dict st)) (.fro (.str so)) (.fro (.str z)) (.fro (.str ab)) (.fro co) c10 c11 c12) := by
  refine ret0_s (fun k q => ?_) q
  show kf_e (W ns c1 c2 c3 (.fro (.dict ps)) (.fro (.dict st)) (.fro (.str so)) (.fro (.str z)) (.fro (.str ab)) (.fro co) c10 c11 c12) (fun db ρ2 => oIn false .none db fun d => (match d with | .bool b => k b ρ2 | _ => False))
  refine kf_s hy fun es ke => ?_
  exact in_none ke.1 (kd_ok sz sa ke) q
theorem lv_s {c11 c12 : Cell} (g : HI fs ps st) (hy : so = "seat" → co = .str y) {k : D → Cs → Prop} (q : ∀ ds, Dd (nmsK st (keysV so z ab y)) ds → (∀ d ∈ ds, isPr d = true) → ds.Pairwise (fun x y => ltN (prOf y) (prOf x) = false) → k (.tuple .frz ds) (W ns c1 c2 c3 (.fro (.dict ps)) (.fro (.dict st)) (.fro (.str so)) (.fro (.str z)) (.fro (.str ab)) (.fro co) c10 c11 c12)) :
    lv_e (W ns c1 c2 c3 (.fro (.dict ps)) (.fro (.dict st)) (.fro (.str so)) (.fro (.str z)) (.fro (.str ab)) (.fro co) c10 c11 c12) k :=
  ⟨List.nodup_nil, rfl, leave_for_s g.ts (hi_pr g) hy fun ds dd ip pw => q ds dd ip pw⟩
theorem lk_s {c11 c12 : Cell} (g : HI fs ps st) (hy : so = "seat" → co = .str y) {k : D → Cs → Prop} (q : ∀ ds, Dd (nmsK st (keysV so z ab y)) ds → (∀ d ∈ ds, isPr d = true) → ds.Pairwise (fun x y => ltN (prOf y) (prOf x) = false) → k (.tuple .frz ds) (W ns c1 c2 c3 (.fro (.dict ps)) (.fro (.dict st)) (.fro (.str so)) (.fro (.str z)) (.fro (.str ab)) (.fro co) c10 c11 c12)) :
    lk_e (W ns c1 c2 c3 (.fro (.dict ps)) (.fro (.dict st)) (.fro (.str so)) (.fro (.str z)) (.fro (.str ab)) (.fro co) c10 c11 c12) k :=
  callK_eva (ds := [.str so, .str z, .str ab, co, .dict st]) (es := [.dict st, .str so, .str z, .str ab, co]) (eva_cons (ev_var rfl) (eva_cons (ev_var rfl) (eva_cons (ev_var rfl) (eva_cons (ev_var rfl) (eva_cons (ev_var rfl) eva_nil))))) rfl rfl (leave_for_s g.ts (hi_pr g) hy fun ds dd ip pw => q ds dd ip pw)
theorem c_s {E : Dn} {c11 : Cell} (g : HI fs ps st) (hy : so = "seat" → co = .str y) {ds : List D} (dd : Dd (nmsK st (keysV so z ab y)) ds) (pw : ds.Pairwise (fun x y => ltN (prOf y) (prOf x) = false)) (q : E.nx (W ns c1 c2 c3 (.fro (.dict ps)) (.fro (.dict st)) (.fro (.str so)) (.fro (.str z)) (.fro (.str ab)) (.fro co) c10 c11 (.fro (.tuple .frz ds)))) :
    if_c E (W ns c1 c2 c3 (.fro (.dict ps)) (.fro (.dict st)) (.fro (.str so)) (.fro (.str z)) (.fro (.str ab)) (.fro co) c10 c11 (.fro (.tuple .frz ds))) := by
  refine ret0_s (fun k q => ?_) q
  show lk_e (W ns c1 c2 c3 (.fro (.dict ps)) (.fro (.dict st)) (.fro (.str so)) (.fro (.str z)) (.fro (.str ab)) (.fro co) c10 c11 (.fro (.tuple .frz ds))) (fun da ρ1 => mVar 12 ρ1 fun db ρ2 => oNe da db fun d => (match d with | .bool b => k b ρ2 | _ => False))
  refine lk_s g hy fun es de ip pe => ?_
  have eq := dd_two de dd (nms_nd g keysV_nd) (fun d m => (nms_pr g d m).1) pe pw
  subst eq
  show oNe (.tuple .frz es) (.tuple .frz es) fun d => (match d with | .bool b => k b (W ns c1 c2 c3 (.fro (.dict ps)) (.fro (.dict st)) (.fro (.str so)) (.fro (.str z)) (.fro (.str ab)) (.fro co) c10 c11 (.fro (.tuple .frz es))) | _ => False)
  exact nk_ne (fun d m => nms_nk g d (dd.1 d m)) q
theorem d_s {E : Dn} {c11 c12 : Cell} (g : HI fs ps st) (l2 : st.length ≤ 105) {h : Str} {nm f : D} (p : Pn z h) (hc : Cont so co) (q : E.nx (W ns c1 c2 c3 (.fro (.dict ps)) (.fro (.dict st)) (.fro (.str so)) (.fro (.str z)) (.fro (.str ab)) (.fro co) (.fro (.tuple .mad [nm, .str so, .str z, .str ab, co, f, f])) c11 c12)) :
    if_d E (W ns c1 c2 c3 (.fro (.dict ps)) (.fro (.dict st)) (.fro (.str so)) (.fro (.str z)) (.fro (.str ab)) (.fro co) (.fro (.tuple .mad [nm, .str so, .str z, .str ab, co, f, f])) c11 c12) := by
  obtain ⟨V, v, hV⟩ := bar_ex g (ab := ab) p hc l2
  have b1 : Ev bk_e (W ns c1 c2 c3 (.fro (.dict ps)) (.fro (.dict st)) (.fro (.str so)) (.fro (.str z)) (.fro (.str ab)) (.fro co) (.fro (.tuple .mad [nm, .str so, .str z, .str ab, co, f, f])) c11 c12) V := fun k q =>
    callK_eva (ds := [.tuple .mad [nm, .str so, .str z, .str ab, co, f, f], .dict st, .dict ps]) (es := [.dict ps, .dict st, .tuple .mad [nm, .str so, .str z, .str ab, co, f, f]]) (eva_cons (ev_var rfl) (eva_cons (ev_var rfl) (eva_cons (ev_var rfl) eva_nil))) rfl rfl (hV _ _ _ _ _ q)
  have b2 : Ev bp_e (W ns c1 c2 c3 (.fro (.dict ps)) (.fro (.dict st)) (.fro (.str so)) (.fro (.str z)) (.fro (.str ab)) (.fro co) (.fro (.tuple .mad [nm, .str so, .str z, .str ab, co, f, f])) c11 c12) V :=
    ev_call3 (ev_var rfl) (ev_var rfl) (ev_var rfl) fun k q => hV _ _ _ _ k q
  exact ret0_s (evt_test (ev_op b1 b2 fun k q => vd_ne v q)) q
end
end K20

namespace K20
open PySem PySem.Spec PyProof.Rows L2 Br Dl K12
theorem seq_mk {a b : MS} {E : Dn} {ρ : Cs} (q : a { E with nx := b E } ρ) : sSeq a b E ρ := q
section
variable {ns : List Int} {c1 c11 c12 : Cell} {a b d e : Str} {ps st : List (D × D)}
theorem for_ev {m : ME} {mg : MG} {bd : MS} {E : Dn} {ρ : Cs} {ds : List D} (h : Ev m ρ (.list ds)) (q : sForL mg bd E ds ρ) : sFor (mItems dLst m) mg bd E ρ := h _ q
theorem mid_s {E : Dn} {fs : List Str} (g : HI fs ps st) (l2 : st.length ≤ 105) {so z ab h y : Str} {co nm f : D} {c2 c3 : Cell} (p : Pn z h) (hy : so = "seat" → co = .str y) (hc : Cont so co) (sz : PyData.strOk z = true) (sa : PyData.strOk ab = true)
    (q : ∀ c11 c12, E.nx (W ns c1 c2 c3 (.fro (.dict ps)) (.fro (.dict st)) (.fro (.str so)) (.fro (.str z)) (.fro (.str ab)) (.fro co) (.fro (.tuple .mad [nm, .str so, .str z, .str ab, co, f, f])) c11 c12)) :
    sort_mid E (W ns c1 c2 c3 (.fro (.dict ps)) (.fro (.dict st)) (.fro (.str so)) (.fro (.str z)) (.fro (.str ab)) (.fro co) (.fro (.tuple .mad [nm, .str so, .str z, .str ab, co, f, f])) c11 c12) := by
  have s : 1000 ≤ sizeLine := by decide
  refine seq_setO (fd_s hy fun ds kd => ?_)
  have l := keysV_len (so := so) (z := z) (ab := ab) (y := y)
  rw [← kd.2, List.length_map] at l
  refine (seq_mk (a_s hy sz sa kd ?_) : (sSeq if_a (sSeq (sAppend 11 (mC .none)) (sSeq if_b sort_tail))) E (W ns c1 c2 c3 (.fro (.dict ps)) (.fro (.dict st)) (.fro (.str so)) (.fro (.str z)) (.fro (.str ab)) (.fro co) (.fro (.tuple .mad [nm, .str so, .str z, .str ab, co, f, f])) (.own (.list ds)) c12))
  refine (seq_mk (app_st (ds := ds) rfl ev_c (by omega) ?_) : (sSeq (sAppend 11 (mC .none)) (sSeq if_b sort_tail)) E (W ns c1 c2 c3 (.fro (.dict ps)) (.fro (.dict st)) (.fro (.str so)) (.fro (.str z)) (.fro (.str ab)) (.fro co) (.fro (.tuple .mad [nm, .str so, .str z, .str ab, co, f, f])) (.own (.list ds)) c12))
  refine (seq_mk (b_s hy sz sa ?_) : (sSeq if_b sort_tail) E (W ns c1 c2 c3 (.fro (.dict ps)) (.fro (.dict st)) (.fro (.str so)) (.fro (.str z)) (.fro (.str ab)) (.fro co) (.fro (.tuple .mad [nm, .str so, .str z, .str ab, co, f, f])) (.own (.list (ds ++ [.none]))) c12))
  refine seq_set' (lv_s g hy fun es dd ip pw => ?_)
  refine (seq_mk (c_s g hy dd pw ?_) : (sSeq if_c if_d) E (W ns c1 c2 c3 (.fro (.dict ps)) (.fro (.dict st)) (.fro (.str so)) (.fro (.str z)) (.fro (.str ab)) (.fro co) (.fro (.tuple .mad [nm, .str so, .str z, .str ab, co, f, f])) (.own (.list (ds ++ [.none]))) (.fro (.tuple .frz es))))
  exact d_s g l2 p hc (q _ _)
theorem sort_s {E : Dn} (f : Fo a b d e) {fs : List Str} (g : HI fs ps st) (l2 : st.length ≤ 105) {so : Str} {c2 c7 c8 c9 c10 : Cell} (p : PL c2)
    (q : ∀ c2 c7 c8 c9 c10 c11 c12, PL c2 → E.nx (W ns c1 c2 (.fro (fo a b d e)) (.fro (.dict ps)) (.fro (.dict st)) (.fro (.str so)) c7 c8 c9 c10 c11 c12)) :
    sort_body E (W ns c1 c2 (.fro (fo a b d e)) (.fro (.dict ps)) (.fro (.dict st)) (.fro (.str so)) c7 c8 c9 c10 c11 c12) := by
  refine seq_set' (one_s f p fun z c3 pz p3 => ?_)
  have zo := K12.Pd.ok pz
  obtain ⟨h, pn⟩ := pz.pn
  refine (seq_set' (ab_s f p3 fun ab c4 abo p4 => ?_) : (sSeq (sSet 8 ab_e) (sSeq (sSet 9 co_e) (sSeq (sSet 10 it_e) sort_mid))) E (W ns c1 c3 (.fro (fo a b d e)) (.fro (.dict ps)) (.fro (.dict st)) (.fro (.str so)) (.fro (.str z)) c8 c9 c10 c11 c12))
  refine (seq_set' (co_s f p4 fun co c5 hc p5 => ?_) : (sSeq (sSet 9 co_e) (sSeq (sSet 10 it_e) sort_mid)) E (W ns c1 c4 (.fro (fo a b d e)) (.fro (.dict ps)) (.fro (.dict st)) (.fro (.str so)) (.fro (.str z)) (.fro (.str ab)) c9 c10 c11 c12))
  obtain ⟨y, hy⟩ : ∃ y, so = "seat" → co = .str y := by
    by_cases e : so = "seat"
    · obtain ⟨y, hy⟩ := hc.1 e; exact ⟨y, fun _ => hy⟩
    · exact ⟨"", fun h => absurd h e⟩
  obtain ⟨fi, hi⟩ := item_s (ps := ps) (so := so) (ot := .str ab) (co := co) pn
  have ei : Ev it_e (W ns c1 c5 (.fro (fo a b d e)) (.fro (.dict ps)) (.fro (.dict st)) (.fro (.str so)) (.fro (.str z)) (.fro (.str ab)) (.fro co) c10 c11 c12) (.tuple .mad [.tuple .frz [.str h, .int 900], .str so, .str z, .str ab, co, fi, fi]) :=
    ev_call5 (ev_var rfl) (ev_var rfl) (ev_var rfl) (ev_var rfl) (ev_var rfl) fun k q => hi k q
  refine (set_ev ei ?_ : (sSeq (sSet 10 it_e) sort_mid) E (W ns c1 c5 (.fro (fo a b d e)) (.fro (.dict ps)) (.fro (.dict st)) (.fro (.str so)) (.fro (.str z)) (.fro (.str ab)) (.fro co) c10 c11 c12))
  exact mid_s g l2 pn hy hc zo abo fun c11 c12 => q _ _ _ _ _ _ _ p5
theorem sorts_L {E : Dn} (f : Fo a b d e) {fs : List Str} (g : HI fs ps st) (l2 : st.length ≤ 105) : ∀ (xs : List Str) (c2 c6 c7 c8 c9 c10 c11 c12 : Cell), PL c2 → (∀ c2 c6 c7 c8 c9 c10 c11 c12, E.nx (W ns c1 c2 (.fro (fo a b d e)) (.fro (.dict ps)) (.fro (.dict st)) c6 c7 c8 c9 c10 c11 c12)) →
    sForL (mgName 6) sort_body E (xs.map .str) (W ns c1 c2 (.fro (fo a b d e)) (.fro (.dict ps)) (.fro (.dict st)) c6 c7 c8 c9 c10 c11 c12)
  | [], c2, c6, c7, c8, c9, c10, c11, c12, p, q => q _ _ _ _ _ _ _ _
  | x :: xs, c2, c6, c7, c8, c9, c10, c11, c12, p, q => by
    refine (sort_s f g l2 p fun c2 c7 c8 c9 c10 c11 c12 p => ?_ : sort_body _ (W ns c1 c2 (.fro (fo a b d e)) (.fro (.dict ps)) (.fro (.dict st)) (.fro (.str x)) c7 c8 c9 c10 c11 c12))
    exact sorts_L f g l2 xs _ _ _ _ _ _ _ _ p q
end
theorem cell_s {E : Dn} {ns : List Int} {i : Int} {c2 c3 c4 c5 c6 c7 c8 c9 c10 c11 c12 : Cell} (i0 : 0 ≤ i) (i1 : i < 1000)
    (hk : ∀ c2 c3 c4 c5 c6 c7 c8 c9 c10 c11 c12, E.nx (W ns (.fro (.int i)) c2 c3 c4 c5 c6 c7 c8 c9 c10 c11 c12)) :
    law_body E (W ns (.fro (.int i)) c2 c3 c4 c5 c6 c7 c8 c9 c10 c11 c12) := by
  refine seq_setO (show F_law_pool [.scr ns, .int i] _ from pool_s i0 i1 fun x y x0 y0 y1 => ?_)
  have P0 : PL (.own (.list [.int x, .int y])) := ⟨x, y, rfl, x0, y0, y1⟩
  refine seq_set' (call_j (j := 2) (x := .list [.int x, .int y]) (m := mC (.int 4)) rfl ?_)
  refine aft (x := .list [.int x, .int y]) rfl (folk_s P0 fun c' a b d e p' pa pb pd pe nu => ?_)
  obtain ⟨x', y', rfl, q'⟩ := id p'
  have f : Fo a b d e := ⟨pa, pb, pd, pe⟩
  refine (show (slotsOf [.inl 2, .inr (fo a b d e)]).Nodup ∧ slotsOf (([.inl 2, .inr (fo a b d e)] : List Ar).drop 1) = [] ∧ F_law_hall [.own (.list [.int x', .int y']), .fro (fo a b d e)] _ from ⟨by simp [slotsOf], rfl, hall_s f p' fun ps st c2 p2 g ne l1 l2 => ?_⟩)
  refine (show mFrz 4 (W ns (.fro (.int i)) c2 (.fro (fo a b d e)) (.own (.dict ps)) (.own (.dict st)) c6 c7 c8 c9 c10 c11 c12) (fun _ ρ2 => mFrz 5 ρ2 fun _ ρ3 => (sFor (mItems dLst sorts_e) (mgName 6) sort_body) E ρ3) from frz_at rfl (frz_at rfl ?_))
  refine (?_ : (sFor (mItems dLst sorts_e) (mgName 6) sort_body) E (W ns (.fro (.int i)) c2 (.fro (fo a b d e)) (.fro (.dict ps)) (.fro (.dict st)) c6 c7 c8 c9 c10 c11 c12))
  have es : Ev sorts_e (W ns (.fro (.int i)) c2 (.fro (fo a b d e)) (.fro (.dict ps)) (.fro (.dict st)) c6 c7 c8 c9 c10 c11 c12) (.list ((["begin", "seat", "seat", "ranks", "door", "say", "strike", "move"] : List Str).map .str)) := ev_lst (eva_cons ev_c (eva_cons ev_c (eva_cons ev_c (eva_cons ev_c (eva_cons ev_c (eva_cons ev_c (eva_cons ev_c (eva_cons ev_c eva_nil)))))))) (Nat.le_of_ble_eq_true rfl)
  refine for_ev es ?_
  exact sorts_L f g (by omega) _ c2 c6 c7 c8 c9 c10 c11 c12 p2 fun c2 c6 c7 c8 c9 c10 c11 c12 => hk _ _ _ _ _ _ _ _ _ _ _
theorem cells_L {E : Dn} {ns : List Int} : ∀ (is : List Int) (c1 c2 c3 c4 c5 c6 c7 c8 c9 c10 c11 c12 : Cell), (∀ i ∈ is, 0 ≤ i ∧ i < 1000) → (∀ c1 c2 c3 c4 c5 c6 c7 c8 c9 c10 c11 c12, E.nx (W ns c1 c2 c3 c4 c5 c6 c7 c8 c9 c10 c11 c12)) →
    sForL (mgName 1) law_body E (is.map .int) (W ns c1 c2 c3 c4 c5 c6 c7 c8 c9 c10 c11 c12)
  | [], c1, c2, c3, c4, c5, c6, c7, c8, c9, c10, c11, c12, _, hk => hk _ _ _ _ _ _ _ _ _ _ _ _
  | i :: is, c1, c2, c3, c4, c5, c6, c7, c8, c9, c10, c11, c12, hi, hk => by
    refine (cell_s (hi i List.mem_cons_self).1 (hi i List.mem_cons_self).2 fun c2 c3 c4 c5 c6 c7 c8 c9 c10 c11 c12 => ?_ : law_body _ (W ns (.fro (.int i)) c2 c3 c4 c5 c6 c7 c8 c9 c10 c11 c12))
    exact cells_L is _ c2 c3 c4 c5 c6 c7 c8 c9 c10 c11 c12 (fun y hy => hi y (List.mem_cons_of_mem _ hy)) hk
theorem law_true {ns : List Int} {k : D → List Cell → Prop} (hk : k (.bool true) []) : F_law [.fro (.scr ns)] k := by
  refine Fof.mk rfl ?_
  rw [law_eq]
  generalize hj : (if (if (10 : Int) < (ns.length : Int) then (10 : Int) else (ns.length : Int)) > 1 then (if (10 : Int) < (ns.length : Int) then (10 : Int) else (ns.length : Int)) else 1) = j
  have b : 1 ≤ j ∧ j ≤ 10 := by subst hj; split <;> split at * <;> omega
  have ei : intsD 0 j.toNat = ((List.range j.toNat).map fun i => ((0 : Int) + (i : Nat))).map D.int := by unfold intsD; rw [List.map_map]; rfl
  refine seq_for (show -(2 ^ 62) ≤ (if (if (10 : Int) < (ns.length : Int) then (10 : Int) else (ns.length : Int)) > 1 then (if (10 : Int) < (ns.length : Int) then (10 : Int) else (ns.length : Int)) else 1) ∧ (if (if (10 : Int) < (ns.length : Int) then (10 : Int) else (ns.length : Int)) > 1 then (if (10 : Int) < (ns.length : Int) then (10 : Int) else (ns.length : Int)) else 1) < 2 ^ 62 ∧ sForL (mgName 1) law_body _ (intsD 0 (if (if (10 : Int) < (ns.length : Int) then (10 : Int) else (ns.length : Int)) > 1 then (if (10 : Int) < (ns.length : Int) then (10 : Int) else (ns.length : Int)) else 1).toNat) (W ns .un .un .un .un .un .un .un .un .un .un .un .un) from ?_)
  rw [hj, ei]
  refine ⟨by omega, by omega, cells_L _ .un .un .un .un .un .un .un .un .un .un .un .un (fun i hi => ?_) fun c1 c2 c3 c4 c5 c6 c7 c8 c9 c10 c11 c12 => hk⟩
  obtain ⟨m, hm, rfl⟩ := List.mem_map.mp hi
  have := List.mem_range.mp hm
  omega
end K20

namespace K20
open PySem PySem.Spec PyProof.Rows L2 Br Dl K12
theorem txt_mk {K : PySem.W.Frag} {h : Heap} {mg : Str → Option Value} (X : K.In h) (G : h.Ns mainGlobals mg)
    {f0 : Addr} {od0 an0 : Option Addr} {sl0 : Array (Option Value)} {oc0 kV0 dc0 pm0 cd0 ct0 : Value}
    (a0 : PySem.W.nsIn K mainGlobals "house_of" = some (some (.ref f0))) (l0 : K.lookup f0 = some ⟨oc0, od0, .func (PySem.W.fnOf "house_of" "house_of" (defArgs s_house_of) (defBody s_house_of) (defScope s_house_of) .none kV0 dc0 pm0 an0 cd0 ct0), sl0⟩) (c0 : PySem.W.codeIn K cd0 "house_of" = true) (k0 : PySem.W.keepIn K (.ref f0) = true)
    {f1 : Addr} {od1 an1 : Option Addr} {sl1 : Array (Option Value)} {oc1 kV1 dc1 pm1 cd1 ct1 : Value}
    (a1 : PySem.W.nsIn K mainGlobals "body_for" = some (some (.ref f1))) (l1 : K.lookup f1 = some ⟨oc1, od1, .func (PySem.W.fnOf "body_for" "body_for" (defArgs s_body_for) (defBody s_body_for) (defScope s_body_for) .none kV1 dc1 pm1 an1 cd1 ct1), sl1⟩) (c1 : PySem.W.codeIn K cd1 "body_for" = true) (k1 : PySem.W.keepIn K (.ref f1) = true)
    {f2 : Addr} {od2 an2 : Option Addr} {sl2 : Array (Option Value)} {oc2 kV2 dc2 pm2 cd2 ct2 : Value}
    (a2 : PySem.W.nsIn K mainGlobals "who_began" = some (some (.ref f2))) (l2 : K.lookup f2 = some ⟨oc2, od2, .func (PySem.W.fnOf "who_began" "who_began" (defArgs s_who_began) (defBody s_who_began) (defScope s_who_began) .none kV2 dc2 pm2 an2 cd2 ct2), sl2⟩) (c2 : PySem.W.codeIn K cd2 "who_began" = true) (k2 : PySem.W.keepIn K (.ref f2) = true)
    {f3 : Addr} {od3 an3 : Option Addr} {sl3 : Array (Option Value)} {oc3 kV3 dc3 pm3 cd3 ct3 : Value}
    (a3 : PySem.W.nsIn K mainGlobals "people_by" = some (some (.ref f3))) (l3 : K.lookup f3 = some ⟨oc3, od3, .func (PySem.W.fnOf "people_by" "people_by" (defArgs s_people_by) (defBody s_people_by) (defScope s_people_by) .none kV3 dc3 pm3 an3 cd3 ct3), sl3⟩) (c3 : PySem.W.codeIn K cd3 "people_by" = true) (k3 : PySem.W.keepIn K (.ref f3) = true)
    {f4 : Addr} {od4 an4 : Option Addr} {sl4 : Array (Option Value)} {oc4 kV4 dc4 pm4 cd4 ct4 : Value}
    (a4 : PySem.W.nsIn K mainGlobals "people_in" = some (some (.ref f4))) (l4 : K.lookup f4 = some ⟨oc4, od4, .func (PySem.W.fnOf "people_in" "people_in" (defArgs s_people_in) (defBody s_people_in) (defScope s_people_in) .none kV4 dc4 pm4 an4 cd4 ct4), sl4⟩) (c4 : PySem.W.codeIn K cd4 "people_in" = true) (k4 : PySem.W.keepIn K (.ref f4) = true)
    {f5 : Addr} {od5 an5 : Option Addr} {sl5 : Array (Option Value)} {oc5 kV5 dc5 pm5 cd5 ct5 : Value}
    (a5 : PySem.W.nsIn K mainGlobals "wanted_by" = some (some (.ref f5))) (l5 : K.lookup f5 = some ⟨oc5, od5, .func (PySem.W.fnOf "wanted_by" "wanted_by" (defArgs s_wanted_by) (defBody s_wanted_by) (defScope s_wanted_by) .none kV5 dc5 pm5 an5 cd5 ct5), sl5⟩) (c5 : PySem.W.codeIn K cd5 "wanted_by" = true) (k5 : PySem.W.keepIn K (.ref f5) = true)
    {f6 : Addr} {od6 an6 : Option Addr} {sl6 : Array (Option Value)} {oc6 kV6 dc6 pm6 cd6 ct6 : Value}
    (a6 : PySem.W.nsIn K mainGlobals "rank_in" = some (some (.ref f6))) (l6 : K.lookup f6 = some ⟨oc6, od6, .func (PySem.W.fnOf "rank_in" "rank_in" (defArgs s_rank_in) (defBody s_rank_in) (defScope s_rank_in) .none kV6 dc6 pm6 an6 cd6 ct6), sl6⟩) (c6 : PySem.W.codeIn K cd6 "rank_in" = true) (k6 : PySem.W.keepIn K (.ref f6) = true)
    {f7 : Addr} {od7 an7 : Option Addr} {sl7 : Array (Option Value)} {oc7 kV7 dc7 pm7 cd7 ct7 : Value}
    (a7 : PySem.W.nsIn K mainGlobals "wanted_in" = some (some (.ref f7))) (l7 : K.lookup f7 = some ⟨oc7, od7, .func (PySem.W.fnOf "wanted_in" "wanted_in" (defArgs s_wanted_in) (defBody s_wanted_in) (defScope s_wanted_in) .none kV7 dc7 pm7 an7 cd7 ct7), sl7⟩) (c7 : PySem.W.codeIn K cd7 "wanted_in" = true) (k7 : PySem.W.keepIn K (.ref f7) = true)
    {f8 : Addr} {od8 an8 : Option Addr} {sl8 : Array (Option Value)} {oc8 kV8 dc8 pm8 cd8 ct8 : Value}
    (a8 : PySem.W.nsIn K mainGlobals "seat_in" = some (some (.ref f8))) (l8 : K.lookup f8 = some ⟨oc8, od8, .func (PySem.W.fnOf "seat_in" "seat_in" (defArgs s_seat_in) (defBody s_seat_in) (defScope s_seat_in) .none kV8 dc8 pm8 an8 cd8 ct8), sl8⟩) (c8 : PySem.W.codeIn K cd8 "seat_in" = true) (k8 : PySem.W.keepIn K (.ref f8) = true)
    {f9 : Addr} {od9 an9 : Option Addr} {sl9 : Array (Option Value)} {oc9 kV9 dc9 pm9 cd9 ct9 : Value}
    (a9 : PySem.W.nsIn K mainGlobals "door_in" = some (some (.ref f9))) (l9 : K.lookup f9 = some ⟨oc9, od9, .func (PySem.W.fnOf "door_in" "door_in" (defArgs s_door_in) (defBody s_door_in) (defScope s_door_in) .none kV9 dc9 pm9 an9 cd9 ct9), sl9⟩) (c9 : PySem.W.codeIn K cd9 "door_in" = true) (k9 : PySem.W.keepIn K (.ref f9) = true)
    {f10 : Addr} {od10 an10 : Option Addr} {sl10 : Array (Option Value)} {oc10 kV10 dc10 pm10 cd10 ct10 : Value}
    (a10 : PySem.W.nsIn K mainGlobals "keys_for" = some (some (.ref f10))) (l10 : K.lookup f10 = some ⟨oc10, od10, .func (PySem.W.fnOf "keys_for" "keys_for" (defArgs s_keys_for) (defBody s_keys_for) (defScope s_keys_for) .none kV10 dc10 pm10 an10 cd10 ct10), sl10⟩) (c10 : PySem.W.codeIn K cd10 "keys_for" = true) (k10 : PySem.W.keepIn K (.ref f10) = true)
    {f11 : Addr} {od11 an11 : Option Addr} {sl11 : Array (Option Value)} {oc11 kV11 dc11 pm11 cd11 ct11 : Value}
    (a11 : PySem.W.nsIn K mainGlobals "leave_for" = some (some (.ref f11))) (l11 : K.lookup f11 = some ⟨oc11, od11, .func (PySem.W.fnOf "leave_for" "leave_for" (defArgs s_leave_for) (defBody s_leave_for) (defScope s_leave_for) .none kV11 dc11 pm11 an11 cd11 ct11), sl11⟩) (c11 : PySem.W.codeIn K cd11 "leave_for" = true) (k11 : PySem.W.keepIn K (.ref f11) = true)
    {f12 : Addr} {od12 an12 : Option Addr} {sl12 : Array (Option Value)} {oc12 kV12 dc12 pm12 cd12 ct12 : Value}
    (a12 : PySem.W.nsIn K mainGlobals "bar_less" = some (some (.ref f12))) (l12 : K.lookup f12 = some ⟨oc12, od12, .func (PySem.W.fnOf "bar_less" "bar_less" (defArgs s_bar_less) (defBody s_bar_less) (defScope s_bar_less) .none kV12 dc12 pm12 an12 cd12 ct12), sl12⟩) (c12 : PySem.W.codeIn K cd12 "bar_less" = true) (k12 : PySem.W.keepIn K (.ref f12) = true)
    {f13 : Addr} {od13 an13 : Option Addr} {sl13 : Array (Option Value)} {oc13 kV13 dc13 pm13 cd13 ct13 : Value}
    (a13 : PySem.W.nsIn K mainGlobals "bar_coming" = some (some (.ref f13))) (l13 : K.lookup f13 = some ⟨oc13, od13, .func (PySem.W.fnOf "bar_coming" "bar_coming" (defArgs s_bar_coming) (defBody s_bar_coming) (defScope s_bar_coming) .none kV13 dc13 pm13 an13 cd13 ct13), sl13⟩) (c13 : PySem.W.codeIn K cd13 "bar_coming" = true) (k13 : PySem.W.keepIn K (.ref f13) = true)
    {f14 : Addr} {od14 an14 : Option Addr} {sl14 : Array (Option Value)} {oc14 kV14 dc14 pm14 cd14 ct14 : Value}
    (a14 : PySem.W.nsIn K mainGlobals "bar_calling" = some (some (.ref f14))) (l14 : K.lookup f14 = some ⟨oc14, od14, .func (PySem.W.fnOf "bar_calling" "bar_calling" (defArgs s_bar_calling) (defBody s_bar_calling) (defScope s_bar_calling) .none kV14 dc14 pm14 an14 cd14 ct14), sl14⟩) (c14 : PySem.W.codeIn K cd14 "bar_calling" = true) (k14 : PySem.W.keepIn K (.ref f14) = true)
    {f15 : Addr} {od15 an15 : Option Addr} {sl15 : Array (Option Value)} {oc15 kV15 dc15 pm15 cd15 ct15 : Value}
    (a15 : PySem.W.nsIn K mainGlobals "bar_putting" = some (some (.ref f15))) (l15 : K.lookup f15 = some ⟨oc15, od15, .func (PySem.W.fnOf "bar_putting" "bar_putting" (defArgs s_bar_putting) (defBody s_bar_putting) (defScope s_bar_putting) .none kV15 dc15 pm15 an15 cd15 ct15), sl15⟩) (c15 : PySem.W.codeIn K cd15 "bar_putting" = true) (k15 : PySem.W.keepIn K (.ref f15) = true)
    {f16 : Addr} {od16 an16 : Option Addr} {sl16 : Array (Option Value)} {oc16 kV16 dc16 pm16 cd16 ct16 : Value}
    (a16 : PySem.W.nsIn K mainGlobals "bar_seat" = some (some (.ref f16))) (l16 : K.lookup f16 = some ⟨oc16, od16, .func (PySem.W.fnOf "bar_seat" "bar_seat" (defArgs s_bar_seat) (defBody s_bar_seat) (defScope s_bar_seat) .none kV16 dc16 pm16 an16 cd16 ct16), sl16⟩) (c16 : PySem.W.codeIn K cd16 "bar_seat" = true) (k16 : PySem.W.keepIn K (.ref f16) = true)
    {f17 : Addr} {od17 an17 : Option Addr} {sl17 : Array (Option Value)} {oc17 kV17 dc17 pm17 cd17 ct17 : Value}
    (a17 : PySem.W.nsIn K mainGlobals "changes_above" = some (some (.ref f17))) (l17 : K.lookup f17 = some ⟨oc17, od17, .func (PySem.W.fnOf "changes_above" "changes_above" (defArgs s_changes_above) (defBody s_changes_above) (defScope s_changes_above) .none kV17 dc17 pm17 an17 cd17 ct17), sl17⟩) (c17 : PySem.W.codeIn K cd17 "changes_above" = true) (k17 : PySem.W.keepIn K (.ref f17) = true)
    {f18 : Addr} {od18 an18 : Option Addr} {sl18 : Array (Option Value)} {oc18 kV18 dc18 pm18 cd18 ct18 : Value}
    (a18 : PySem.W.nsIn K mainGlobals "takes_from_equal" = some (some (.ref f18))) (l18 : K.lookup f18 = some ⟨oc18, od18, .func (PySem.W.fnOf "takes_from_equal" "takes_from_equal" (defArgs s_takes_from_equal) (defBody s_takes_from_equal) (defScope s_takes_from_equal) .none kV18 dc18 pm18 an18 cd18 ct18), sl18⟩) (c18 : PySem.W.codeIn K cd18 "takes_from_equal" = true) (k18 : PySem.W.keepIn K (.ref f18) = true)
    {f19 : Addr} {od19 an19 : Option Addr} {sl19 : Array (Option Value)} {oc19 kV19 dc19 pm19 cd19 ct19 : Value}
    (a19 : PySem.W.nsIn K mainGlobals "bar_ranks" = some (some (.ref f19))) (l19 : K.lookup f19 = some ⟨oc19, od19, .func (PySem.W.fnOf "bar_ranks" "bar_ranks" (defArgs s_bar_ranks) (defBody s_bar_ranks) (defScope s_bar_ranks) .none kV19 dc19 pm19 an19 cd19 ct19), sl19⟩) (c19 : PySem.W.codeIn K cd19 "bar_ranks" = true) (k19 : PySem.W.keepIn K (.ref f19) = true)
    {f20 : Addr} {od20 an20 : Option Addr} {sl20 : Array (Option Value)} {oc20 kV20 dc20 pm20 cd20 ct20 : Value}
    (a20 : PySem.W.nsIn K mainGlobals "bar_strike" = some (some (.ref f20))) (l20 : K.lookup f20 = some ⟨oc20, od20, .func (PySem.W.fnOf "bar_strike" "bar_strike" (defArgs s_bar_strike) (defBody s_bar_strike) (defScope s_bar_strike) .none kV20 dc20 pm20 an20 cd20 ct20), sl20⟩) (c20 : PySem.W.codeIn K cd20 "bar_strike" = true) (k20 : PySem.W.keepIn K (.ref f20) = true)
    {f21 : Addr} {od21 an21 : Option Addr} {sl21 : Array (Option Value)} {oc21 kV21 dc21 pm21 cd21 ct21 : Value}
    (a21 : PySem.W.nsIn K mainGlobals "bar" = some (some (.ref f21))) (l21 : K.lookup f21 = some ⟨oc21, od21, .func (PySem.W.fnOf "bar" "bar" (defArgs s_bar) (defBody s_bar) (defScope s_bar) .none kV21 dc21 pm21 an21 cd21 ct21), sl21⟩) (c21 : PySem.W.codeIn K cd21 "bar" = true) (k21 : PySem.W.keepIn K (.ref f21) = true)
    {f22 : Addr} {od22 an22 : Option Addr} {sl22 : Array (Option Value)} {oc22 kV22 dc22 pm22 cd22 ct22 : Value}
    (a22 : PySem.W.nsIn K mainGlobals "_law_pool" = some (some (.ref f22))) (l22 : K.lookup f22 = some ⟨oc22, od22, .func (PySem.W.fnOf "_law_pool" "_law_pool" (defArgs s_law_pool) (defBody s_law_pool) (defScope s_law_pool) .none kV22 dc22 pm22 an22 cd22 ct22), sl22⟩) (c22 : PySem.W.codeIn K cd22 "_law_pool" = true) (k22 : PySem.W.keepIn K (.ref f22) = true)
    {f23 : Addr} {od23 an23 : Option Addr} {sl23 : Array (Option Value)} {oc23 kV23 dc23 pm23 cd23 ct23 : Value}
    (a23 : PySem.W.nsIn K mainGlobals "_law_take" = some (some (.ref f23))) (l23 : K.lookup f23 = some ⟨oc23, od23, .func (PySem.W.fnOf "_law_take" "_law_take" (defArgs s_law_take) (defBody s_law_take) (defScope s_law_take) .none kV23 dc23 pm23 an23 cd23 ct23), sl23⟩) (c23 : PySem.W.codeIn K cd23 "_law_take" = true) (k23 : PySem.W.keepIn K (.ref f23) = true)
    {f24 : Addr} {od24 an24 : Option Addr} {sl24 : Array (Option Value)} {oc24 kV24 dc24 pm24 cd24 ct24 : Value}
    (a24 : PySem.W.nsIn K mainGlobals "_law_letters" = some (some (.ref f24))) (l24 : K.lookup f24 = some ⟨oc24, od24, .func (PySem.W.fnOf "_law_letters" "_law_letters" (defArgs s_law_letters) (defBody s_law_letters) (defScope s_law_letters) .none kV24 dc24 pm24 an24 cd24 ct24), sl24⟩) (c24 : PySem.W.codeIn K cd24 "_law_letters" = true) (k24 : PySem.W.keepIn K (.ref f24) = true)
    {f25 : Addr} {od25 an25 : Option Addr} {sl25 : Array (Option Value)} {oc25 kV25 dc25 pm25 cd25 ct25 : Value}
    (a25 : PySem.W.nsIn K mainGlobals "_law_folk" = some (some (.ref f25))) (l25 : K.lookup f25 = some ⟨oc25, od25, .func (PySem.W.fnOf "_law_folk" "_law_folk" (defArgs s_law_folk) (defBody s_law_folk) (defScope s_law_folk) .none kV25 dc25 pm25 an25 cd25 ct25), sl25⟩) (c25 : PySem.W.codeIn K cd25 "_law_folk" = true) (k25 : PySem.W.keepIn K (.ref f25) = true)
    {f26 : Addr} {od26 an26 : Option Addr} {sl26 : Array (Option Value)} {oc26 kV26 dc26 pm26 cd26 ct26 : Value}
    (a26 : PySem.W.nsIn K mainGlobals "_law_rank_rows" = some (some (.ref f26))) (l26 : K.lookup f26 = some ⟨oc26, od26, .func (PySem.W.fnOf "_law_rank_rows" "_law_rank_rows" (defArgs s_law_rank_rows) (defBody s_law_rank_rows) (defScope s_law_rank_rows) .none kV26 dc26 pm26 an26 cd26 ct26), sl26⟩) (c26 : PySem.W.codeIn K cd26 "_law_rank_rows" = true) (k26 : PySem.W.keepIn K (.ref f26) = true)
    {f27 : Addr} {od27 an27 : Option Addr} {sl27 : Array (Option Value)} {oc27 kV27 dc27 pm27 cd27 ct27 : Value}
    (a27 : PySem.W.nsIn K mainGlobals "_law_add" = some (some (.ref f27))) (l27 : K.lookup f27 = some ⟨oc27, od27, .func (PySem.W.fnOf "_law_add" "_law_add" (defArgs s_law_add) (defBody s_law_add) (defScope s_law_add) .none kV27 dc27 pm27 an27 cd27 ct27), sl27⟩) (c27 : PySem.W.codeIn K cd27 "_law_add" = true) (k27 : PySem.W.keepIn K (.ref f27) = true)
    {f28 : Addr} {od28 an28 : Option Addr} {sl28 : Array (Option Value)} {oc28 kV28 dc28 pm28 cd28 ct28 : Value}
    (a28 : PySem.W.nsIn K mainGlobals "_law_hall" = some (some (.ref f28))) (l28 : K.lookup f28 = some ⟨oc28, od28, .func (PySem.W.fnOf "_law_hall" "_law_hall" (defArgs s_law_hall) (defBody s_law_hall) (defScope s_law_hall) .none kV28 dc28 pm28 an28 cd28 ct28), sl28⟩) (c28 : PySem.W.codeIn K cd28 "_law_hall" = true) (k28 : PySem.W.keepIn K (.ref f28) = true)
    {f29 : Addr} {od29 an29 : Option Addr} {sl29 : Array (Option Value)} {oc29 kV29 dc29 pm29 cd29 ct29 : Value}
    (a29 : PySem.W.nsIn K mainGlobals "_law_content" = some (some (.ref f29))) (l29 : K.lookup f29 = some ⟨oc29, od29, .func (PySem.W.fnOf "_law_content" "_law_content" (defArgs s_law_content) (defBody s_law_content) (defScope s_law_content) .none kV29 dc29 pm29 an29 cd29 ct29), sl29⟩) (c29 : PySem.W.codeIn K cd29 "_law_content" = true) (k29 : PySem.W.keepIn K (.ref f29) = true)
    {f30 : Addr} {od30 an30 : Option Addr} {sl30 : Array (Option Value)} {oc30 kV30 dc30 pm30 cd30 ct30 : Value}
    (a30 : PySem.W.nsIn K mainGlobals "_law_item" = some (some (.ref f30))) (l30 : K.lookup f30 = some ⟨oc30, od30, .func (PySem.W.fnOf "_law_item" "_law_item" (defArgs s_law_item) (defBody s_law_item) (defScope s_law_item) .none kV30 dc30 pm30 an30 cd30 ct30), sl30⟩) (c30 : PySem.W.codeIn K cd30 "_law_item" = true) (k30 : PySem.W.keepIn K (.ref f30) = true)
    {f31 : Addr} {od31 an31 : Option Addr} {sl31 : Array (Option Value)} {oc31 kV31 dc31 pm31 cd31 ct31 : Value}
    (a31 : PySem.W.nsIn K mainGlobals "law" = some (some (.ref f31))) (l31 : K.lookup f31 = some ⟨oc31, od31, .func (PySem.W.fnOf "law" "law" (defArgs s_law) (defBody s_law) (defScope s_law) .none kV31 dc31 pm31 an31 cd31 ct31), sl31⟩) (c31 : PySem.W.codeIn K cd31 "law" = true) (k31 : PySem.W.keepIn K (.ref f31) = true)
    {t_KIND : Tok} (g_KIND : PySem.W.nsIn K mainGlobals "KIND" = some (some (.int 1 t_KIND)))
    {t_WHO : Tok} (g_WHO : PySem.W.nsIn K mainGlobals "WHO" = some (some (.int 2 t_WHO)))
    {t_ABOUT : Tok} (g_ABOUT : PySem.W.nsIn K mainGlobals "ABOUT" = some (some (.int 3 t_ABOUT)))
    {t_BODY : Tok} (g_BODY : PySem.W.nsIn K mainGlobals "BODY" = some (some (.int 4 t_BODY)))
    {t_FIRST_RANK : Tok} (g_FIRST_RANK : PySem.W.nsIn K mainGlobals "FIRST_RANK" = some (some (.int 100 t_FIRST_RANK)))
    {t_WANTED_ELSE : Tok} (g_WANTED_ELSE : PySem.W.nsIn K mainGlobals "WANTED_ELSE" = some (some (.int 50 t_WANTED_ELSE)))
    {t_OWN_STRIKES_RULES : Tok} (g_OWN_STRIKES_RULES : PySem.W.nsIn K mainGlobals "OWN_STRIKES_RULES" = some (some (.int 2 t_OWN_STRIKES_RULES)))
    (z_dict : PySem.W.nsIn K mainGlobals "dict" = some none)
    (z_int : PySem.W.nsIn K mainGlobals "int" = some none)
    (z_len : PySem.W.nsIn K mainGlobals "len" = some none)
    (z_list : PySem.W.nsIn K mainGlobals "list" = some none)
    (z_max : PySem.W.nsIn K mainGlobals "max" = some none)
    (z_min : PySem.W.nsIn K mainGlobals "min" = some none)
    (z_range : PySem.W.nsIn K mainGlobals "range" = some none)
    (z_sorted : PySem.W.nsIn K mainGlobals "sorted" = some none)
    (z_tuple : PySem.W.nsIn K mainGlobals "tuple" = some none)
    {a_WORDS : Addr} {od_WORDS : Option Addr} {sl_WORDS : Array (Option Value)} {its_WORDS : Array Value} {n_WORDS : Nat} (g_WORDS : PySem.W.nsIn K mainGlobals "WORDS" = some (some (.ref a_WORDS))) (l_WORDS : K.lookup a_WORDS = some ⟨.type "tuple", od_WORDS, .seq its_WORDS n_WORDS, sl_WORDS⟩) (v_WORDS : Vals [.str "bar", .str "call", .str "door", .str "move", .str "out", .str "ranks", .str "say", .str "strike"] its_WORDS.toList) (s_WORDS : its_WORDS.size ≤ sizeLine)
    {a_BEGIN_KEY : Addr} {od_BEGIN_KEY : Option Addr} {sl_BEGIN_KEY : Array (Option Value)} {its_BEGIN_KEY : Array Value} {n_BEGIN_KEY : Nat} (g_BEGIN_KEY : PySem.W.nsIn K mainGlobals "BEGIN_KEY" = some (some (.ref a_BEGIN_KEY))) (l_BEGIN_KEY : K.lookup a_BEGIN_KEY = some ⟨.type "tuple", od_BEGIN_KEY, .seq its_BEGIN_KEY n_BEGIN_KEY, sl_BEGIN_KEY⟩) (v_BEGIN_KEY : Vals [.str "begin", .str ""] its_BEGIN_KEY.toList) (s_BEGIN_KEY : its_BEGIN_KEY.size ≤ sizeLine)
    {a_RANKS_KEY : Addr} {od_RANKS_KEY : Option Addr} {sl_RANKS_KEY : Array (Option Value)} {its_RANKS_KEY : Array Value} {n_RANKS_KEY : Nat} (g_RANKS_KEY : PySem.W.nsIn K mainGlobals "RANKS_KEY" = some (some (.ref a_RANKS_KEY))) (l_RANKS_KEY : K.lookup a_RANKS_KEY = some ⟨.type "tuple", od_RANKS_KEY, .seq its_RANKS_KEY n_RANKS_KEY, sl_RANKS_KEY⟩) (v_RANKS_KEY : Vals [.str "ranks", .str ""] its_RANKS_KEY.toList) (s_RANKS_KEY : its_RANKS_KEY.size ≤ sizeLine)
    {a_DOOR_KEY : Addr} {od_DOOR_KEY : Option Addr} {sl_DOOR_KEY : Array (Option Value)} {its_DOOR_KEY : Array Value} {n_DOOR_KEY : Nat} (g_DOOR_KEY : PySem.W.nsIn K mainGlobals "DOOR_KEY" = some (some (.ref a_DOOR_KEY))) (l_DOOR_KEY : K.lookup a_DOOR_KEY = some ⟨.type "tuple", od_DOOR_KEY, .seq its_DOOR_KEY n_DOOR_KEY, sl_DOOR_KEY⟩) (v_DOOR_KEY : Vals [.str "door", .str ""] its_DOOR_KEY.toList) (s_DOOR_KEY : its_DOOR_KEY.size ≤ sizeLine)
    {a_FREE_WORDS : Addr} {od_FREE_WORDS : Option Addr} {sl_FREE_WORDS : Array (Option Value)} {its_FREE_WORDS : Array Value} {n_FREE_WORDS : Nat} (g_FREE_WORDS : PySem.W.nsIn K mainGlobals "FREE_WORDS" = some (some (.ref a_FREE_WORDS))) (l_FREE_WORDS : K.lookup a_FREE_WORDS = some ⟨.type "tuple", od_FREE_WORDS, .seq its_FREE_WORDS n_FREE_WORDS, sl_FREE_WORDS⟩) (v_FREE_WORDS : Vals [.str "call", .str "say"] its_FREE_WORDS.toList) (s_FREE_WORDS : its_FREE_WORDS.size ≤ sizeLine)
    {a_TAKEN_SEATS : Addr} {od_TAKEN_SEATS : Option Addr} {sl_TAKEN_SEATS : Array (Option Value)} {its_TAKEN_SEATS : Array Value} {n_TAKEN_SEATS : Nat} (g_TAKEN_SEATS : PySem.W.nsIn K mainGlobals "TAKEN_SEATS" = some (some (.ref a_TAKEN_SEATS))) (l_TAKEN_SEATS : K.lookup a_TAKEN_SEATS = some ⟨.type "tuple", od_TAKEN_SEATS, .seq its_TAKEN_SEATS n_TAKEN_SEATS, sl_TAKEN_SEATS⟩) (v_TAKEN_SEATS : Vals [.str "in", .str "called"] its_TAKEN_SEATS.toList) (s_TAKEN_SEATS : its_TAKEN_SEATS.size ≤ sizeLine)
    {e0_NO_RANKS : Addr} {eod0_NO_RANKS : Option Addr} {esl0_NO_RANKS : Array (Option Value)} {en0_NO_RANKS : Nat}
    {e1_NO_RANKS : Addr} {eod1_NO_RANKS : Option Addr} {esl1_NO_RANKS : Array (Option Value)} {en1_NO_RANKS : Nat}
    {a_NO_RANKS : Addr} {od_NO_RANKS : Option Addr} {sl_NO_RANKS : Array (Option Value)} {its_NO_RANKS : Array Value} {n_NO_RANKS : Nat} (g_NO_RANKS : PySem.W.nsIn K mainGlobals "NO_RANKS" = some (some (.ref a_NO_RANKS))) (l_NO_RANKS : K.lookup a_NO_RANKS = some ⟨.type "tuple", od_NO_RANKS, .seq its_NO_RANKS n_NO_RANKS, sl_NO_RANKS⟩) (v_NO_RANKS : Vals [.ref e0_NO_RANKS, .ref e1_NO_RANKS] its_NO_RANKS.toList) (s_NO_RANKS : its_NO_RANKS.size ≤ sizeLine)
    (l0_NO_RANKS : K.lookup e0_NO_RANKS = some ⟨.type "tuple", eod0_NO_RANKS, .seq #[] en0_NO_RANKS, esl0_NO_RANKS⟩)
    (l1_NO_RANKS : K.lookup e1_NO_RANKS = some ⟨.type "tuple", eod1_NO_RANKS, .seq #[] en1_NO_RANKS, esl1_NO_RANKS⟩)
    : Nonempty (PSigma fun T : Txt K mg => T.d_law = PySem.W.fnOf "law" "law" (defArgs s_law) (defBody s_law) (defScope s_law) .none kV31 dc31 pm31 an31 cd31 ct31) := by
  have F0 := fun_mk (st := s_house_of) l0 c0 k0
  have b0 := F0.binds (ps := ["person"]) fun _ _ _ _ _ _ us hl => match us, hl with | [_], _ => rfl
  have F1 := fun_mk (st := s_body_for) l1 c1 k1
  have b1 := F1.binds (ps := ["hall", "state", "key", "otherwise"]) fun _ _ _ _ _ _ us hl => match us, hl with | [_, _, _, _], _ => rfl
  have F2 := fun_mk (st := s_who_began) l2 c2 k2
  have b2 := F2.binds (ps := ["hall", "state"]) fun _ _ _ _ _ _ us hl => match us, hl with | [_, _], _ => rfl
  have F3 := fun_mk (st := s_people_by) l3 c3 k3
  have b3 := F3.binds (ps := ["body"]) fun _ _ _ _ _ _ us hl => match us, hl with | [_], _ => rfl
  have F4 := fun_mk (st := s_people_in) l4 c4 k4
  have b4 := F4.binds (ps := ["hall", "state"]) fun _ _ _ _ _ _ us hl => match us, hl with | [_, _], _ => rfl
  have F5 := fun_mk (st := s_wanted_by) l5 c5 k5
  have b5 := F5.binds (ps := ["body", "word"]) fun _ _ _ _ _ _ us hl => match us, hl with | [_, _], _ => rfl
  have F6 := fun_mk (st := s_rank_in) l6 c6 k6
  have b6 := F6.binds (ps := ["hall", "state", "person"]) fun _ _ _ _ _ _ us hl => match us, hl with | [_, _, _], _ => rfl
  have F7 := fun_mk (st := s_wanted_in) l7 c7 k7
  have b7 := F7.binds (ps := ["hall", "state", "word"]) fun _ _ _ _ _ _ us hl => match us, hl with | [_, _, _], _ => rfl
  have F8 := fun_mk (st := s_seat_in) l8 c8 k8
  have b8 := F8.binds (ps := ["hall", "state", "person"]) fun _ _ _ _ _ _ us hl => match us, hl with | [_, _, _], _ => rfl
  have F9 := fun_mk (st := s_door_in) l9 c9 k9
  have b9 := F9.binds (ps := ["hall", "state"]) fun _ _ _ _ _ _ us hl => match us, hl with | [_, _], _ => rfl
  have F10 := fun_mk (st := s_keys_for) l10 c10 k10
  have b10 := F10.binds (ps := ["kind", "who", "about", "body"]) fun _ _ _ _ _ _ us hl => match us, hl with | [_, _, _, _], _ => rfl
  have F11 := fun_mk (st := s_leave_for) l11 c11 k11
  have b11 := F11.binds (ps := ["state", "kind", "who", "about", "body"]) fun _ _ _ _ _ _ us hl => match us, hl with | [_, _, _, _, _], _ => rfl
  have F12 := fun_mk (st := s_bar_less) l12 c12 k12
  have b12 := F12.binds (ps := ["hall", "state", "who", "word"]) fun _ _ _ _ _ _ us hl => match us, hl with | [_, _, _, _], _ => rfl
  have F13 := fun_mk (st := s_bar_coming) l13 c13 k13
  have b13 := F13.binds (ps := ["hall", "state", "who", "about"]) fun _ _ _ _ _ _ us hl => match us, hl with | [_, _, _, _], _ => rfl
  have F14 := fun_mk (st := s_bar_calling) l14 c14 k14
  have b14 := F14.binds (ps := ["hall", "state", "who", "about"]) fun _ _ _ _ _ _ us hl => match us, hl with | [_, _, _, _], _ => rfl
  have F15 := fun_mk (st := s_bar_putting) l15 c15 k15
  have b15 := F15.binds (ps := ["hall", "state", "who", "about", "word"]) fun _ _ _ _ _ _ us hl => match us, hl with | [_, _, _, _, _], _ => rfl
  have F16 := fun_mk (st := s_bar_seat) l16 c16 k16
  have b16 := F16.binds (ps := ["hall", "state", "who", "about", "body"]) fun _ _ _ _ _ _ us hl => match us, hl with | [_, _, _, _, _], _ => rfl
  have F17 := fun_mk (st := s_changes_above) l17 c17 k17
  have b17 := F17.binds (ps := ["elder", "newer", "own"]) fun _ _ _ _ _ _ us hl => match us, hl with | [_, _, _], _ => rfl
  have F18 := fun_mk (st := s_takes_from_equal) l18 c18 k18
  have b18 := F18.binds (ps := ["elder", "newer", "own"]) fun _ _ _ _ _ _ us hl => match us, hl with | [_, _, _], _ => rfl
  have F19 := fun_mk (st := s_bar_ranks) l19 c19 k19
  have b19 := F19.binds (ps := ["hall", "state", "who", "body"]) fun _ _ _ _ _ _ us hl => match us, hl with | [_, _, _, _], _ => rfl
  have F20 := fun_mk (st := s_bar_strike) l20 c20 k20
  have b20 := F20.binds (ps := ["hall", "state", "who", "struck"]) fun _ _ _ _ _ _ us hl => match us, hl with | [_, _, _, _], _ => rfl
  have F21 := fun_mk (st := s_bar) l21 c21 k21
  have b21 := F21.binds (ps := ["hall", "state", "deed"]) fun _ _ _ _ _ _ us hl => match us, hl with | [_, _, _], _ => rfl
  have F22 := fun_mk (st := s_law_pool) l22 c22 k22
  have b22 := F22.binds (ps := ["_law_script", "_law_k"]) fun _ _ _ _ _ _ us hl => match us, hl with | [_, _], _ => rfl
  have F23 := fun_mk (st := s_law_take) l23 c23 k23
  have b23 := F23.binds (ps := ["_law_pool_here", "_law_many"]) fun _ _ _ _ _ _ us hl => match us, hl with | [_, _], _ => rfl
  have F24 := fun_mk (st := s_law_letters) l24 c24 k24
  have b24 := F24.binds (ps := ["_law_pool_here", "_law_many"]) fun _ _ _ _ _ _ us hl => match us, hl with | [_, _], _ => rfl
  have F25 := fun_mk (st := s_law_folk) l25 c25 k25
  have b25 := F25.binds (ps := ["_law_pool_here", "_law_many"]) fun _ _ _ _ _ _ us hl => match us, hl with | [_, _], _ => rfl
  have F26 := fun_mk (st := s_law_rank_rows) l26 c26 k26
  have b26 := F26.binds (ps := ["_law_pool_here", "_law_folk_here"]) fun _ _ _ _ _ _ us hl => match us, hl with | [_, _], _ => rfl
  have F27 := fun_mk (st := s_law_add) l27 c27 k27
  have b27 := F27.binds (ps := ["_law_web", "_law_sort", "_law_one", "_law_other", "_law_told"]) fun _ _ _ _ _ _ us hl => match us, hl with | [_, _, _, _, _], _ => rfl
  have F28 := fun_mk (st := s_law_hall) l28 c28 k28
  have b28 := F28.binds (ps := ["_law_pool_here", "_law_folk_here"]) fun _ _ _ _ _ _ us hl => match us, hl with | [_, _], _ => rfl
  have F29 := fun_mk (st := s_law_content) l29 c29 k29
  have b29 := F29.binds (ps := ["_law_pool_here", "_law_sort", "_law_folk_here", "_law_title"]) fun _ _ _ _ _ _ us hl => match us, hl with | [_, _, _, _], _ => rfl
  have F30 := fun_mk (st := s_law_item) l30 c30 k30
  have b30 := F30.binds (ps := ["_law_web", "_law_sort", "_law_doer", "_law_other", "_law_content_here"]) fun _ _ _ _ _ _ us hl => match us, hl with | [_, _, _, _, _], _ => rfl
  have F31 := fun_mk (st := s_law) l31 c31 k31
  have b31 := F31.binds (ps := ["_law_script"]) fun _ _ _ _ _ _ us hl => match us, hl with | [_], _ => rfl
  exact ⟨⟨{
    a_WORDS := a_WORDS, m_WORDS := PySem.W.mg_of X G g_WORDS, r_WORDS := fun G => .tupC (.inr ⟨_, _, _, l_WORDS, rfl, rfl, s_WORDS, v_WORDS⟩) (.cons (.str _) (.cons (.str _) (.cons (.str _) (.cons (.str _) (.cons (.str _) (.cons (.str _) (.cons (.str _) (.cons (.str _) .nil)))))))),
    a_BEGIN_KEY := a_BEGIN_KEY, m_BEGIN_KEY := PySem.W.mg_of X G g_BEGIN_KEY, r_BEGIN_KEY := fun G => .tupC (.inr ⟨_, _, _, l_BEGIN_KEY, rfl, rfl, s_BEGIN_KEY, v_BEGIN_KEY⟩) (.cons (.str _) (.cons (.str _) .nil)),
    a_RANKS_KEY := a_RANKS_KEY, m_RANKS_KEY := PySem.W.mg_of X G g_RANKS_KEY, r_RANKS_KEY := fun G => .tupC (.inr ⟨_, _, _, l_RANKS_KEY, rfl, rfl, s_RANKS_KEY, v_RANKS_KEY⟩) (.cons (.str _) (.cons (.str _) .nil)),
    a_DOOR_KEY := a_DOOR_KEY, m_DOOR_KEY := PySem.W.mg_of X G g_DOOR_KEY, r_DOOR_KEY := fun G => .tupC (.inr ⟨_, _, _, l_DOOR_KEY, rfl, rfl, s_DOOR_KEY, v_DOOR_KEY⟩) (.cons (.str _) (.cons (.str _) .nil)),
    a_FREE_WORDS := a_FREE_WORDS, m_FREE_WORDS := PySem.W.mg_of X G g_FREE_WORDS, r_FREE_WORDS := fun G => .tupC (.inr ⟨_, _, _, l_FREE_WORDS, rfl, rfl, s_FREE_WORDS, v_FREE_WORDS⟩) (.cons (.str _) (.cons (.str _) .nil)),
    a_TAKEN_SEATS := a_TAKEN_SEATS, m_TAKEN_SEATS := PySem.W.mg_of X G g_TAKEN_SEATS, r_TAKEN_SEATS := fun G => .tupC (.inr ⟨_, _, _, l_TAKEN_SEATS, rfl, rfl, s_TAKEN_SEATS, v_TAKEN_SEATS⟩) (.cons (.str _) (.cons (.str _) .nil)),
    a_NO_RANKS := a_NO_RANKS, m_NO_RANKS := PySem.W.mg_of X G g_NO_RANKS, r_NO_RANKS := fun G => .tupC (.inr ⟨_, _, _, l_NO_RANKS, rfl, rfl, s_NO_RANKS, v_NO_RANKS⟩) (.cons (.tupC (.inr ⟨_, _, _, l0_NO_RANKS, rfl, rfl, Nat.zero_le _, .nil⟩) .nil) (.cons (.tupC (.inr ⟨_, _, _, l1_NO_RANKS, rfl, rfl, Nat.zero_le _, .nil⟩) .nil) .nil)),
    kx_0 := fun s ws hl => match ws, hl with | [_, _, _, _], _ => .of_eq rfl,
    kx_1 := fun s ws hl => match ws, hl with | [_, _, _, _, _], _ => .of_eq rfl,
    kx_2 := fun s ws hl => match ws, hl with | [_, _, _], _ => .of_eq rfl,
    f_house_of := f0, d_house_of := _, F_house_of := F0, b_house_of := b0, kw_house_of := fun s ws hl => match ws, hl with | [_], _ => .of_eq rfl, m_house_of := PySem.W.mg_of X G a0,
    f_body_for := f1, d_body_for := _, F_body_for := F1, b_body_for := b1, kw_body_for := fun s ws hl => match ws, hl with | [_, _, _, _], _ => .of_eq rfl, m_body_for := PySem.W.mg_of X G a1,
    f_who_began := f2, d_who_began := _, F_who_began := F2, b_who_began := b2, kw_who_began := fun s ws hl => match ws, hl with | [_, _], _ => .of_eq rfl, m_who_began := PySem.W.mg_of X G a2,
    f_people_by := f3, d_people_by := _, F_people_by := F3, b_people_by := b3, kw_people_by := fun s ws hl => match ws, hl with | [_], _ => .of_eq rfl, m_people_by := PySem.W.mg_of X G a3,
    f_people_in := f4, d_people_in := _, F_people_in := F4, b_people_in := b4, kw_people_in := fun s ws hl => match ws, hl with | [_, _], _ => .of_eq rfl, m_people_in := PySem.W.mg_of X G a4,
    f_wanted_by := f5, d_wanted_by := _, F_wanted_by := F5, b_wanted_by := b5, kw_wanted_by := fun s ws hl => match ws, hl with | [_, _], _ => .of_eq rfl, m_wanted_by := PySem.W.mg_of X G a5,
    f_rank_in := f6, d_rank_in := _, F_rank_in := F6, b_rank_in := b6, kw_rank_in := fun s ws hl => match ws, hl with | [_, _, _], _ => .of_eq rfl, m_rank_in := PySem.W.mg_of X G a6,
    f_wanted_in := f7, d_wanted_in := _, F_wanted_in := F7, b_wanted_in := b7, kw_wanted_in := fun s ws hl => match ws, hl with | [_, _, _], _ => .of_eq rfl, m_wanted_in := PySem.W.mg_of X G a7,
    f_seat_in := f8, d_seat_in := _, F_seat_in := F8, b_seat_in := b8, kw_seat_in := fun s ws hl => match ws, hl with | [_, _, _], _ => .of_eq rfl, m_seat_in := PySem.W.mg_of X G a8,
    f_door_in := f9, d_door_in := _, F_door_in := F9, b_door_in := b9, kw_door_in := fun s ws hl => match ws, hl with | [_, _], _ => .of_eq rfl, m_door_in := PySem.W.mg_of X G a9,
    f_keys_for := f10, d_keys_for := _, F_keys_for := F10, b_keys_for := b10, kw_keys_for := fun s ws hl => match ws, hl with | [_, _, _, _], _ => .of_eq rfl, m_keys_for := PySem.W.mg_of X G a10,
    f_leave_for := f11, d_leave_for := _, F_leave_for := F11, b_leave_for := b11, kw_leave_for := fun s ws hl => match ws, hl with | [_, _, _, _, _], _ => .of_eq rfl, m_leave_for := PySem.W.mg_of X G a11,
    f_bar_less := f12, d_bar_less := _, F_bar_less := F12, b_bar_less := b12, kw_bar_less := fun s ws hl => match ws, hl with | [_, _, _, _], _ => .of_eq rfl, m_bar_less := PySem.W.mg_of X G a12,
    f_bar_coming := f13, d_bar_coming := _, F_bar_coming := F13, b_bar_coming := b13, kw_bar_coming := fun s ws hl => match ws, hl with | [_, _, _, _], _ => .of_eq rfl, m_bar_coming := PySem.W.mg_of X G a13,
    f_bar_calling := f14, d_bar_calling := _, F_bar_calling := F14, b_bar_calling := b14, kw_bar_calling := fun s ws hl => match ws, hl with | [_, _, _, _], _ => .of_eq rfl, m_bar_calling := PySem.W.mg_of X G a14,
    f_bar_putting := f15, d_bar_putting := _, F_bar_putting := F15, b_bar_putting := b15, kw_bar_putting := fun s ws hl => match ws, hl with | [_, _, _, _, _], _ => .of_eq rfl, m_bar_putting := PySem.W.mg_of X G a15,
    f_bar_seat := f16, d_bar_seat := _, F_bar_seat := F16, b_bar_seat := b16, kw_bar_seat := fun s ws hl => match ws, hl with | [_, _, _, _, _], _ => .of_eq rfl, m_bar_seat := PySem.W.mg_of X G a16,
    f_changes_above := f17, d_changes_above := _, F_changes_above := F17, b_changes_above := b17, kw_changes_above := fun s ws hl => match ws, hl with | [_, _, _], _ => .of_eq rfl, m_changes_above := PySem.W.mg_of X G a17,
    f_takes_from_equal := f18, d_takes_from_equal := _, F_takes_from_equal := F18, b_takes_from_equal := b18, kw_takes_from_equal := fun s ws hl => match ws, hl with | [_, _, _], _ => .of_eq rfl, m_takes_from_equal := PySem.W.mg_of X G a18,
    f_bar_ranks := f19, d_bar_ranks := _, F_bar_ranks := F19, b_bar_ranks := b19, kw_bar_ranks := fun s ws hl => match ws, hl with | [_, _, _, _], _ => .of_eq rfl, m_bar_ranks := PySem.W.mg_of X G a19,
    f_bar_strike := f20, d_bar_strike := _, F_bar_strike := F20, b_bar_strike := b20, kw_bar_strike := fun s ws hl => match ws, hl with | [_, _, _, _], _ => .of_eq rfl, m_bar_strike := PySem.W.mg_of X G a20,
    f_bar := f21, d_bar := _, F_bar := F21, b_bar := b21, kw_bar := fun s ws hl => match ws, hl with | [_, _, _], _ => .of_eq rfl, m_bar := PySem.W.mg_of X G a21,
    f_law_pool := f22, d_law_pool := _, F_law_pool := F22, b_law_pool := b22, kw_law_pool := fun s ws hl => match ws, hl with | [_, _], _ => .of_eq rfl, m_law_pool := PySem.W.mg_of X G a22,
    f_law_take := f23, d_law_take := _, F_law_take := F23, b_law_take := b23, kw_law_take := fun s ws hl => match ws, hl with | [_, _], _ => .of_eq rfl, m_law_take := PySem.W.mg_of X G a23,
    f_law_letters := f24, d_law_letters := _, F_law_letters := F24, b_law_letters := b24, kw_law_letters := fun s ws hl => match ws, hl with | [_, _], _ => .of_eq rfl, m_law_letters := PySem.W.mg_of X G a24,
    f_law_folk := f25, d_law_folk := _, F_law_folk := F25, b_law_folk := b25, kw_law_folk := fun s ws hl => match ws, hl with | [_, _], _ => .of_eq rfl, m_law_folk := PySem.W.mg_of X G a25,
    f_law_rank_rows := f26, d_law_rank_rows := _, F_law_rank_rows := F26, b_law_rank_rows := b26, kw_law_rank_rows := fun s ws hl => match ws, hl with | [_, _], _ => .of_eq rfl, m_law_rank_rows := PySem.W.mg_of X G a26,
    f_law_add := f27, d_law_add := _, F_law_add := F27, b_law_add := b27, kw_law_add := fun s ws hl => match ws, hl with | [_, _, _, _, _], _ => .of_eq rfl, m_law_add := PySem.W.mg_of X G a27,
    f_law_hall := f28, d_law_hall := _, F_law_hall := F28, b_law_hall := b28, kw_law_hall := fun s ws hl => match ws, hl with | [_, _], _ => .of_eq rfl, m_law_hall := PySem.W.mg_of X G a28,
    f_law_content := f29, d_law_content := _, F_law_content := F29, b_law_content := b29, kw_law_content := fun s ws hl => match ws, hl with | [_, _, _, _], _ => .of_eq rfl, m_law_content := PySem.W.mg_of X G a29,
    f_law_item := f30, d_law_item := _, F_law_item := F30, b_law_item := b30, kw_law_item := fun s ws hl => match ws, hl with | [_, _, _, _, _], _ => .of_eq rfl, m_law_item := PySem.W.mg_of X G a30,
    f_law := f31, d_law := _, F_law := F31, b_law := b31, kw_law := fun s ws hl => match ws, hl with | [_], _ => .of_eq rfl, m_law := PySem.W.mg_of X G a31,
    t_KIND := _, c_KIND := PySem.W.mg_of X G g_KIND,
    t_WHO := _, c_WHO := PySem.W.mg_of X G g_WHO,
    t_ABOUT := _, c_ABOUT := PySem.W.mg_of X G g_ABOUT,
    t_BODY := _, c_BODY := PySem.W.mg_of X G g_BODY,
    t_FIRST_RANK := _, c_FIRST_RANK := PySem.W.mg_of X G g_FIRST_RANK,
    t_WANTED_ELSE := _, c_WANTED_ELSE := PySem.W.mg_of X G g_WANTED_ELSE,
    t_OWN_STRIKES_RULES := _, c_OWN_STRIKES_RULES := PySem.W.mg_of X G g_OWN_STRIKES_RULES,
    z_dict := PySem.W.mg_none_of X G z_dict,
    z_int := PySem.W.mg_none_of X G z_int,
    z_len := PySem.W.mg_none_of X G z_len,
    z_list := PySem.W.mg_none_of X G z_list,
    z_max := PySem.W.mg_none_of X G z_max,
    z_min := PySem.W.mg_none_of X G z_min,
    z_range := PySem.W.mg_none_of X G z_range,
    z_sorted := PySem.W.mg_none_of X G z_sorted,
    z_tuple := PySem.W.mg_none_of X G z_tuple
  }, rfl⟩⟩
theorem all_mk {l : PySem.W.OpenLaw} {w : World} {K : PySem.W.Frag} {mg : Str → Option Value} {fa : Addr} (hfa : mg "law" = some (.ref fa)) (T : Txt K mg) (hb : ∀ (s : Shared) (v : Value), BindsTo s T.d_law ⟨[v], []⟩ [("_law_script", v)]) :
    ∃ fd : FuncData, (∀ (s : Shared) (v : Value), BindsTo s fd ⟨[v], []⟩ [("_law_script", v)]) ∧ ∀ base : Heap, K.In base → base.Ns mainGlobals mg → FnG l.prog w K mg base CX0 8 fa fd ["_law_script"] (spD K 1 0 F_law) := by
  have e := hfa.symm.trans T.m_law
  cases e
  exact ⟨T.d_law, hb, fun base _ _ => (d_law T).ok⟩
theorem sp_end {K : PySem.W.Frag} {H : Hp} {a : Addr} {xs : List Int} (hl : xs.length ≤ 63) (hS : SqL K H a (xs.map V.int)) : spD K 1 0 F_law [.ref a] H (fun v _ => v = .bl true) fun _ _ _ => False :=
  Dl.law_end hS (law_true fun v G' r => dl_true r) Fof.mo
end K20
open PySem PySem.W PyProof.Rows
set_option maxHeartbeats 0 in
theorem PySem.Challenge.cw_branchedhall_k20_leave_asked_by_names_holds : PySem.Challenge.rw_branchedhall_k20_leave_asked_by_names.Holds := by
  w_on; o_law; k_head; (case hw => w_witness2)
  k_fill
  refine Br.walk_G (l := PySem.Challenge.rw_branchedhall_k20_leave_asked_by_names) (n := 63) (k := 8) (x := "_law_script") (sp := fun K => Dl.spD K 1 0 K20.F_law) rfl (by decide) rfl ⟨rfl, by decide, by decide⟩ (fun w h Y => PySem.W.kIn_of Y) ?F (fun _ _ a xs hl hS => K20.sp_end hl hS)
  case F =>
    intro w mg fa h KX G hmg
    refine' (K20.txt_mk KX G ?a0 ?l0 ?c0 ?k0 ?a1 ?l1 ?c1 ?k1 ?a2 ?l2 ?c2 ?k2 ?a3 ?l3 ?c3 ?k3 ?a4 ?l4 ?c4 ?k4 ?a5 ?l5 ?c5 ?k5 ?a6 ?l6 ?c6 ?k6 ?a7 ?l7 ?c7 ?k7 ?a8 ?l8 ?c8 ?k8 ?a9 ?l9 ?c9 ?k9 ?a10 ?l10 ?c10 ?k10 ?a11 ?l11 ?c11 ?k11 ?a12 ?l12 ?c12 ?k12 ?a13 ?l13 ?c13 ?k13 ?a14 ?l14 ?c14 ?k14 ?a15 ?l15 ?c15 ?k15 ?a16 ?l16 ?c16 ?k16 ?a17 ?l17 ?c17 ?k17 ?a18 ?l18 ?c18 ?k18 ?a19 ?l19 ?c19 ?k19 ?a20 ?l20 ?c20 ?k20 ?a21 ?l21 ?c21 ?k21 ?a22 ?l22 ?c22 ?k22 ?a23 ?l23 ?c23 ?k23 ?a24 ?l24 ?c24 ?k24 ?a25 ?l25 ?c25 ?k25 ?a26 ?l26 ?c26 ?k26 ?a27 ?l27 ?c27 ?k27 ?a28 ?l28 ?c28 ?k28 ?a29 ?l29 ?c29 ?k29 ?a30 ?l30 ?c30 ?k30 ?a31 ?l31 ?c31 ?k31 ?g_KIND ?g_WHO ?g_ABOUT ?g_BODY ?g_FIRST_RANK ?g_WANTED_ELSE ?g_OWN_STRIKES_RULES ?z_dict ?z_int ?z_len ?z_list ?z_max ?z_min ?z_range ?z_sorted ?z_tuple ?g_WORDS ?l_WORDS ?v_WORDS ?s_WORDS ?g_BEGIN_KEY ?l_BEGIN_KEY ?v_BEGIN_KEY ?s_BEGIN_KEY ?g_RANKS_KEY ?l_RANKS_KEY ?v_RANKS_KEY ?s_RANKS_KEY ?g_DOOR_KEY ?l_DOOR_KEY ?v_DOOR_KEY ?s_DOOR_KEY ?g_FREE_WORDS ?l_FREE_WORDS ?v_FREE_WORDS ?s_FREE_WORDS ?g_TAKEN_SEATS ?l_TAKEN_SEATS ?v_TAKEN_SEATS ?s_TAKEN_SEATS ?g_NO_RANKS ?l_NO_RANKS ?v_NO_RANKS ?s_NO_RANKS ?l0_NO_RANKS ?l1_NO_RANKS).elim fun Z => K20.all_mk hmg Z.1 (fun s v => by rw [Z.2]; exact .of_eq rfl)
    case a0 => k_is
    case l0 => k_is
    case c0 => k_is
    case k0 => k_is
    case a1 => k_is
    case l1 => k_is
    case c1 => k_is
    case k1 => k_is
    case a2 => k_is
    case l2 => k_is
    case c2 => k_is
    case k2 => k_is
    case a3 => k_is
    case l3 => k_is
    case c3 => k_is
    case k3 => k_is
    case a4 => k_is
    case l4 => k_is
    case c4 => k_is
    case k4 => k_is
    case a5 => k_is
    case l5 => k_is
    case c5 => k_is
    case k5 => k_is
    case a6 => k_is
    case l6 => k_is
    case c6 => k_is
    case k6 => k_is
    case a7 => k_is
    case l7 => k_is
    case c7 => k_is
    case k7 => k_is
    case a8 => k_is
    case l8 => k_is
    case c8 => k_is
    case k8 => k_is
    case a9 => k_is
    case l9 => k_is
    case c9 => k_is
    case k9 => k_is
    case a10 => k_is
    case l10 => k_is
    case c10 => k_is
    case k10 => k_is
    case a11 => k_is
    case l11 => k_is
    case c11 => k_is
    case k11 => k_is
    case a12 => k_is
    case l12 => k_is
    case c12 => k_is
    case k12 => k_is
    case a13 => k_is
    case l13 => k_is
    case c13 => k_is
    case k13 => k_is
    case a14 => k_is
    case l14 => k_is
    case c14 => k_is
    case k14 => k_is
    case a15 => k_is
    case l15 => k_is
    case c15 => k_is
    case k15 => k_is
    case a16 => k_is
    case l16 => k_is
    case c16 => k_is
    case k16 => k_is
    case a17 => k_is
    case l17 => k_is
    case c17 => k_is
    case k17 => k_is
    case a18 => k_is
    case l18 => k_is
    case c18 => k_is
    case k18 => k_is
    case a19 => k_is
    case l19 => k_is
    case c19 => k_is
    case k19 => k_is
    case a20 => k_is
    case l20 => k_is
    case c20 => k_is
    case k20 => k_is
    case a21 => k_is
    case l21 => k_is
    case c21 => k_is
    case k21 => k_is
    case a22 => k_is
    case l22 => k_is
    case c22 => k_is
    case k22 => k_is
    case a23 => k_is
    case l23 => k_is
    case c23 => k_is
    case k23 => k_is
    case a24 => k_is
    case l24 => k_is
    case c24 => k_is
    case k24 => k_is
    case a25 => k_is
    case l25 => k_is
    case c25 => k_is
    case k25 => k_is
    case a26 => k_is
    case l26 => k_is
    case c26 => k_is
    case k26 => k_is
    case a27 => k_is
    case l27 => k_is
    case c27 => k_is
    case k27 => k_is
    case a28 => k_is
    case l28 => k_is
    case c28 => k_is
    case k28 => k_is
    case a29 => k_is
    case l29 => k_is
    case c29 => k_is
    case k29 => k_is
    case a30 => k_is
    case l30 => k_is
    case c30 => k_is
    case k30 => k_is
    case a31 => k_is
    case l31 => k_is
    case c31 => k_is
    case k31 => k_is
    case g_KIND => k_is
    case g_WHO => k_is
    case g_ABOUT => k_is
    case g_BODY => k_is
    case g_FIRST_RANK => k_is
    case g_WANTED_ELSE => k_is
    case g_OWN_STRIKES_RULES => k_is
    case z_dict => k_is
    case z_int => k_is
    case z_len => k_is
    case z_list => k_is
    case z_max => k_is
    case z_min => k_is
    case z_range => k_is
    case z_sorted => k_is
    case z_tuple => k_is
    case g_WORDS => k_is
    case l_WORDS => k_is
    case v_WORDS => exact (.cons ⟨_, rfl⟩ (.cons ⟨_, rfl⟩ (.cons ⟨_, rfl⟩ (.cons ⟨_, rfl⟩ (.cons ⟨_, rfl⟩ (.cons ⟨_, rfl⟩ (.cons ⟨_, rfl⟩ (.cons ⟨_, rfl⟩ .nil))))))))
    case s_WORDS => decide
    case g_BEGIN_KEY => k_is
    case l_BEGIN_KEY => k_is
    case v_BEGIN_KEY => exact (.cons ⟨_, rfl⟩ (.cons ⟨_, rfl⟩ .nil))
    case s_BEGIN_KEY => decide
    case g_RANKS_KEY => k_is
    case l_RANKS_KEY => k_is
    case v_RANKS_KEY => exact (.cons ⟨_, rfl⟩ (.cons ⟨_, rfl⟩ .nil))
    case s_RANKS_KEY => decide
    case g_DOOR_KEY => k_is
    case l_DOOR_KEY => k_is
    case v_DOOR_KEY => exact (.cons ⟨_, rfl⟩ (.cons ⟨_, rfl⟩ .nil))
    case s_DOOR_KEY => decide
    case g_FREE_WORDS => k_is
    case l_FREE_WORDS => k_is
    case v_FREE_WORDS => exact (.cons ⟨_, rfl⟩ (.cons ⟨_, rfl⟩ .nil))
    case s_FREE_WORDS => decide
    case g_TAKEN_SEATS => k_is
    case l_TAKEN_SEATS => k_is
    case v_TAKEN_SEATS => exact (.cons ⟨_, rfl⟩ (.cons ⟨_, rfl⟩ .nil))
    case s_TAKEN_SEATS => decide
    case g_NO_RANKS => k_is
    case l_NO_RANKS => k_is
    case v_NO_RANKS => exact (.cons rfl (.cons rfl .nil))
    case s_NO_RANKS => decide
    case l0_NO_RANKS => k_is
    case l1_NO_RANKS => k_is
