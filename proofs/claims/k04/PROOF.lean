import PyProof.Rows.All
import Wide.All
import OpenK.AllK
import Wide.FinOn
import HandS.ForMost
import HandS.IsInst
import HandS.ForExc
import HandS.ExcInit
import HandS.ExcField
import HandS.ExcIs
import HandS.FStr
import HandS.Style
import HandS.Sort
import KE.KSortTupG
import PyProof.TupleOfSeq
import HandS.Walk
import HandS.TupAny
import HandS.TupMul
import HandS.Deep
import HandS.DictTup
import HandS.DictComp
import HandS.TupLen
import HandS.Conv
import PyProof.DictMoreH
import HandS.Iter
import HandS.ListItems
import KE.KDictPairs
import HandS.Star
import KE.KDictSum
import HandS.TupSets
import HandS.SetBool
import KE.KDictCopyH
import HandS.Flow
import HandS.StrSplit
import HandS.StrMore
import HandS.CallLocal
import HandS.WrittenGet
import HandS.RaiseMore
import HandS.Zip
import HandS.TryMany
import HandS.Replace
import HandS.More
import PyProof.ExcBaseAll.OverflowError
import PyProof.ExcBaseAll.RuntimeError
import PyProof.ExcBaseAll.LookupError
import PySem.Challenge.RW_branchedhall_k04_refusals_apart
set_option Elab.async false
set_option linter.all false
set_option maxRecDepth 100000
set_option maxHeartbeats 4000000
/-! Rules of my own over the hand layer: texts repeated, repr of data (no repr under way around), calls by keywords alone. -/
namespace Br
open PySem PySem.Spec PyProof.Rows L2

/-- nothing of repr is under way around -/
abbrev Bare (Ar : Around) : Prop := Ar.guards = some []

/-- FnOk, asked only where no repr is under way -/
structure FnG (P : Program) (w : World) (K : PySem.W.Frag) (mg : Str → Option Value) (base : Heap) (CX : CXT) (k : Nat) (f : Addr) (fd : FuncData) (ps : List Str) (sp : Sp) : Prop where
  many : ∀ vs H Q E, sp vs H Q E → vs.length = ps.length
  runs : ∀ (Ar : Around) (out : List Env) (st : Shared) (H : Hp) (as : Args) (us : List Value) (vs : List V) (Q : VK) (E : XK), Bare Ar → Room k Ar → Env0 P w K mg base Ar out st H → BindsTo st fd as (ps.zip us) → Vals vs us → sp vs H Q E →
    codeAny (model P w) Ar (.call (.ref f) as) (CR CX out P w H st Q E) st

section
variable {P : Program} {w : World} {K : PySem.W.Frag} {mg : Str → Option Value} {base : Heap} {CX : CXT} {k j : Nat} {f : Addr} {fd : FuncData} {ps : List Str} {sp : Sp}
theorem FnG.of (F : FnOk P w K mg base CX k f fd ps sp) : FnG P w K mg base CX k f fd ps sp :=
  ⟨F.len, fun Ar out st H as us vs Q E _ hr e0 hb r h => F.run Ar out st H as us vs Q E hr e0 hb r h⟩
theorem FnG.up (F : FnG P w K mg base CX j f fd ps sp) (h : j ≤ k) : FnG P w K mg base CX k f fd ps sp :=
  ⟨F.many, fun Ar out st H as us vs Q E g hr => F.runs Ar out st H as us vs Q E g (hr.mono h)⟩

/-- the rule for a def, as Fun.ok, with what is known of repr -/
theorem okG {x qual : Str} {st : Stmt} {N : List Str} (F : Fun K x qual st f fd) (S : FnScope N ps (defScope st)) (len : ∀ vs H Q E, sp vs H Q E → vs.length = ps.length)
    (body : ∀ (cdv : Value) (Ar : Around) (out : List Env) (s0 : Shared) (H : Hp) (vs : List V) (Q : VK) (E : XK), Bare Ar → Room k (Ar.deeper (envOfC qual (defScope st) s0.heap.objs.size f cdv)) → sp vs H Q E →
      ∃ t, PSs (cxOf CX0 P w K mg base N qual (defScope st) f cdv Ar out s0 H E).nox (defBody st) t ∧ t { nx := fun _ H' => Q .non H', rt := Q } (start N vs) H) : FnG P w K mg base CX0 (k + 1) f fd ps sp := by
  obtain ⟨oc, od, kV, dc, pm, an, cdv, ct, osl, rfl, lk, hcd⟩ := F.ex
  constructor
  · exact len
  intro Ar out s0 H as us vs Q E hG hr e0 hb r hsp
  have hl := len _ _ _ _ hsp
  have inK : K.In s0.heap := e0.mod.kin.keeps fun b o q => (e0.bs b o q).1
  have lim : s0.heap.NoLimit := e0.mod.nolimit.keeps fun b o q => (e0.bs b o q).1
  refine codeAny_call_function hr.depth (inK _ _ lk) rfl S.co S.gen rfl (PySem.W.codeRec_of inK hcd) (hb _ _ _ _ ?_)
  refine wpAny_newFunctionEnv_cells S.kind (fun ⟨n, v⟩ hy => (S.par n (List.of_mem_zip hy).1).imp id fun q => ⟨q, PySem.W.cellsFrom_some _ _ _ (.inl q)⟩) fun env he s1 x => ?_
  subst he
  refine ⟨lim.keeps x.toInCall.keep, codeAny_func ?_⟩
  obtain ⟨t, ht, hq⟩ := body cdv Ar out s0 H vs Q E hG (hr.deeper _) hsp
  have I : Inv (cxOf CX0 P w K mg base N qual (defScope st) f cdv Ar out s0 H E) [] (start N vs) H s1 := inv_start S hr.hd e0 hl r x
  refine wpAny_mono (ht.nox.run [] s1 (start N vs) H _ I hq) (fun fl s' hs => ?_) fun _ _ hs => hs
  cases fl with
  | ret u => obtain ⟨v, _, H', J, rv, q⟩ := hs; exact ⟨v, H', J.os, J.bare, J.base, J.hok, rv, q⟩
  | next => obtain ⟨_, H', J, q⟩ := hs; exact ⟨V.non, H', J.os, J.bare, J.base, J.hok, rfl, q⟩
  | brk => exact hs.elim fun _ z => z.elim fun _ z => z.2.elim
  | cont => exact hs.elim fun _ z => z.elim fun _ z => z.2.elim
end

section
variable {X : Cx} {CX : CXT} {k : Nat} {f : Addr} {fd : FuncData} {ps ks : List Str} {sp : Sp} {E : XK} {x : Str} {p pos : Pos} {e : Expr} {es : List Expr} {kws : List Keyword} {t tk : TA}
/-- a call's end, whatever was bound -/
theorem run_g {pins : List (Addr × Obj)} {σ : L2.St} {H : Hp} {s : Shared} {Q : VK} {us ws : List Value} {kw : List (Str × Value)} {vs : List V} (F : FnG X.prog X.w X.K X.mg X.base CX k f fd ps sp) (hG : Bare X.A) (hr : Room k X.A) (hx : Passes CX X E) (I : Inv X pins σ H s)
    (hb : BindsTo s fd ⟨us, kw⟩ (ps.zip ws)) (r : Vals vs ws) (h : sp vs H Q E) : wpAny (model X.prog X.w) X.A (call (.ref f) us kw) (EP X pins σ Q) X.xe s := by
  refine wpAny_call (codeAny_mono (F.runs X.A X.stack s H ⟨us, kw⟩ ws vs Q E hG hr I.env0 hb r h) fun res s' hq => ?_)
  rcases res with e | fl
  · exact hx pins σ H s e s' I hq
  · cases fl with
    | ret u => exact I.after hq
    | _ => exact False.elim hq
/-- f(e, ..) -/
theorem pe_callG (F : FnG X.prog X.w X.K X.mg X.base CX k f fd ps sp) (hG : Bare X.A) (hr : Room k X.A) (hg : Gl X x) (hm : X.mg x = some (.ref f)) (hk : PySem.W.keepIn X.K (.ref f) = true) (hb : Binds X.K fd ps []) (hx : Passes CX X E)
    (ha : PA X (e :: es) t) (hdb : (x == ("__debug__" : Str)) = false := by decide) (he : starEach (e :: es) X.env = (false, eval e X.env) :: starEach es X.env := by rfl)
    (hpl : (backTo pos (starEach es X.env)).any (·.1) = false := by rfl) : PE X (.Call (.Name x p) (e :: es) [] pos) (tCall sp [] E t) := by
  constructor
  intro pins s σ H Q I h
  refine wpAny_Call_Name_kw (ld_glob I hg hm ?_ hdb)
  refine PySem.W.callWith_K (h₀ := X.base) I.ok.mod.kin hk (thn (ha.run pos pins s σ H _ I h) fun us s1 hh => ?_) he hpl
  obtain ⟨vs, H1, I1, r, q⟩ := hh
  refine ⟨I1.kIn, ?_⟩
  rw [List.append_nil] at q
  have hl : (us ++ []).length = ps.length := by rw [List.append_nil, ← r.length]; exact F.many _ _ _ _ q
  have hbb := hb s1 us I1.kIn hl
  rw [List.append_nil] at hbb
  exact run_g F hG hr hx I1 hbb r q
/-- f(k=e, ..) -/
theorem pe_callGK (F : FnG X.prog X.w X.K X.mg X.base CX k f fd ps sp) (hG : Bare X.A) (hr : Room k X.A) (hg : Gl X x) (hm : X.mg x = some (.ref f)) (hk : PySem.W.keepIn X.K (.ref f) = true)
    (hb : ∀ (s : Shared) (ws : List Value), ws.length = ps.length → BindsTo s fd ⟨[], ks.zip ws⟩ (ps.zip ws)) (hx : Passes CX X E)
    (hkw : PK X kws tk) (hall : (backToKw pos (keywordEach kws X.env)).all (·.1.isSome) = true := by rfl) (hks : (backToKw pos (keywordEach kws X.env)).filterMap (·.1) = ks := by rfl)
    (hdb : (x == ("__debug__" : Str)) = false := by decide) (hpl : ((backTo pos (starEach [] X.env)).any (·.1) || (backToKw pos (keywordEach kws X.env)).any (·.1.isNone)) = false := by rfl) :
    PE X (.Call (.Name x p) [] kws pos) (tCall sp [] E tk) := by
  constructor
  intro pins s σ H Q I h
  refine wpAny_Call_Name_kw (ld_glob I hg hm ?_ hdb)
  refine PySem.W.callWith_KW0 (h₀ := X.base) I.ok.mod.kin hk hall (thn (hkw.run pos pins s σ H _ I h) fun ws s1 hh => ?_) hpl
  obtain ⟨zs, H1, I1, r, q⟩ := hh
  refine ⟨I1.kIn, ?_⟩
  rw [hks]
  rw [List.append_nil] at q
  exact run_g F hG hr hx I1 (hb s1 ws (by rw [← r.length]; exact F.many _ _ _ _ q)) r q
/-- the same of a def that is promised whatever is under way -/
theorem pe_callK0 (F : FnOk X.prog X.w X.K X.mg X.base CX k f fd ps sp) (hr : Room k X.A) (hg : Gl X x) (hm : X.mg x = some (.ref f)) (hk : PySem.W.keepIn X.K (.ref f) = true)
    (hb : ∀ (s : Shared) (ws : List Value), ws.length = ps.length → BindsTo s fd ⟨[], ks.zip ws⟩ (ps.zip ws)) (hx : Passes CX X E)
    (hkw : PK X kws tk) (hall : (backToKw pos (keywordEach kws X.env)).all (·.1.isSome) = true := by rfl) (hks : (backToKw pos (keywordEach kws X.env)).filterMap (·.1) = ks := by rfl)
    (hdb : (x == ("__debug__" : Str)) = false := by decide) (hpl : ((backTo pos (starEach [] X.env)).any (·.1) || (backToKw pos (keywordEach kws X.env)).any (·.1.isNone)) = false := by rfl) :
    PE X (.Call (.Name x p) [] kws pos) (tCall sp [] E tk) := by
  constructor
  intro pins s σ H Q I h
  refine wpAny_Call_Name_kw (ld_glob I hg hm ?_ hdb)
  refine PySem.W.callWith_KW0 (h₀ := X.base) I.ok.mod.kin hk hall (thn (hkw.run pos pins s σ H _ I h) fun ws s1 hh => ?_) hpl
  obtain ⟨zs, H1, I1, r, q⟩ := hh
  refine ⟨I1.kIn, ?_⟩
  rw [hks]
  rw [List.append_nil] at q
  have hbb := hb s1 ws (by rw [← r.length]; exact F.len _ _ _ _ q)
  refine wpAny_call (codeAny_mono (F.run X.A X.stack s1 H1 ⟨[], ks.zip ws⟩ ws zs Q E hr I1.env0 hbb r q) fun res s' hq => ?_)
  rcases res with e | fl
  · exact hx pins σ H1 s1 e s' I1 hq
  · cases fl with
    | ret u => exact I1.after hq
    | _ => exact False.elim hq
end

section
variable {X : Cx}
/-- repr(x) of data -/
theorem call_reprD (hu : X.A.units + 64 < cLine) (hG : Bare X.A) : CallR X (.builtin "repr") (fun xs H Q => ∃ (a : Addr) (d : PyData), xs = [.ref a] ∧ Dp X.K H (.ref a) d ∧ d.showable = true ∧ d.hasDict = false ∧ d.depth ≤ 60 ∧ d.shown.length ≤ sizeLine ∧ Q (.str d.shown) H) := by
  intro pins s σ H xs us Q I r hh
  obtain ⟨a, d, rfl, hd, h1, h2, h3, h4, q⟩ := hh
  obtain ⟨u, rfl, ru⟩ := vals1 r
  cases (show u = Value.ref a from ru)
  obtain ⟨as, hR⟩ := Dp.reads I d _ _ hd (show RelV (.ref a) (.ref a) from rfl)
  refine repr_of_reads' hR h1 (fun z => by rw [h2] at z; cases z) hG (by omega) (fun _ _ e => e) (fun h' u tk hk => ?_) h4
  exact ⟨.str d.shown, H, I.kept hk, ⟨_, rfl⟩, q⟩
/-- a text, repeated -/
def repS (z : Str) (n : Int) : Str := if n < 1 then Str.empty else if n = 1 ∨ z.length = 0 then z else ⟨(List.replicate n.toNat z.cps).foldl (· ++ ·) #[]⟩
theorem op_mulS : OpR X (binaryOp .Mult) (fun x y H Q => ∃ (z : Str) (n : Int), x = .str z ∧ y = .int n ∧ 0 ≤ n ∧ n ≤ 1000 ∧ z.length ≤ 1000 ∧ (repS z n).length ≤ sizeLine ∧ Q (.str (repS z n)) H) := by
  intro pins s σ H x y v u Q I rx ry h
  obtain ⟨z, n, rfl, rfl, h0, h1, hz, hl, q⟩ := h
  obtain ⟨t, rfl⟩ := rx
  obtain ⟨t', rfl⟩ := ry
  have hp : (z.length : Int) * n ≤ 1000 * 1000 := Int.mul_le_mul (by omega) h1 h0 (by omega)
  refine PySem.P.mul_str ?_ (fun hn _ => ?_) (fun hn _ => ?_) ?_
  · rw [decide_eq_false (by omega), decide_eq_false (by omega)]; rfl
  · have := (Int.le_ediv_iff_mul_le (a := (z.length : Int)) (b := (2 ^ 63 - 1 : Int)) (c := n) (by omega)).mpr (by omega)
    omega
  · unfold Builtin.Str.tooLong
    refine decide_eq_false ?_
    have e : ((z.length * n.toNat : Nat) : Int) = (z.length : Int) * n := by rw [Int.natCast_mul, Int.toNat_of_nonneg h0]
    have : (1000 * 1000 : Nat) ≤ sizeLine := by decide
    omega
  · revert hl q
    unfold repS
    intro hl q
    by_cases c : n < 1
    · rw [if_pos c] at q ⊢
      exact ⟨by decide, .str Str.empty, H, I.tok _, ⟨_, rfl⟩, q⟩
    · rw [if_neg c] at hl q ⊢
      by_cases c2 : n = 1 ∨ z.length = 0
      · rw [if_pos c2] at q
        rw [if_pos (by rcases c2 with e | e <;> simp [e])]
        exact ⟨.str z, H, I, ⟨t, rfl⟩, q⟩
      · rw [if_neg c2] at hl q
        rw [if_neg (by intro e; apply c2; simpa using e)]
        exact ⟨hl, .str _, H, I.tok _, ⟨_, rfl⟩, q⟩
end

/-! ### the end of a law whose def is promised where no repr is under way -/
section
variable {P : Program} {w : World} {K : PySem.W.Frag} {mg mb : Str → Option Value} {k : Nat} {fa a : Addr} {fd : FuncData} {x : Str} {sp : Sp} {s₁ : Shared} {vs : List Value} {ns : List Int}
/-- the law's call where at most the script is tracked -/
theorem lawG_at (hns : s₁.heap.Ns mainGlobals mg) (hb : s₁.heap.Ns builtinsNs mb) (hbb : ∀ x : Str, x ≠ "__name__" → mb x = bootBuiltins x) (hlim : s₁.heap.NoLimit) (hg : s₁.gens = #[])
    (ha : s₁.heap.get? a = some { cls := .type "list", data := .seq vs.toArray }) (hr : Room k callerA)
    (F : ∀ base : Heap, K.In base → base.Ns mainGlobals mg → FnG P w K mg base CX0 k fa fd [x] sp) (hbind : ∀ (s : Shared) (u : Value), BindsTo s fd ⟨[u], []⟩ [(x, u)])
    (H : Hp) (hO : Only H) (hok : HOk P w H s₁.heap) (hA : ∀ b, H b ≠ none → b = a) (KH : K.In (hidT s₁.heap H)) (h : sp [.ref a] H (fun v _ => v = .bl true) fun _ _ _ => False) :
    codeAny (model P w) callerA (.call (.ref fa) ⟨[.ref a], []⟩) (fun r s' => r = .ok (.ret (.bool true)) ∧ OldK s₁.heap s'.heap ∧ s'.os = s₁.os ∧ AllBare s'.gens) s₁ := by
  have spare : ∀ {b : Addr} {m : Str → Option Value}, s₁.heap.Ns b m → (hidT s₁.heap H).Ns b m := by
    rintro b m ⟨o, es, ep, e, d, z⟩
    refine ⟨o, es, ep, hidT_get e ?_, d, z⟩
    refine Classical.byContradiction fun n => ?_
    have e' := hA b n
    subst e'
    rw [ha] at e
    cases e
    exact nomatch (show Data.seq vs.toArray _ = Data.dict es ep from d)
  have M : Mod K mg (hidT s₁.heap H) := ⟨KH, spare hns, ⟨mb, spare hb, hbb⟩, hlim.imp fun mc q => ⟨spare q.1, q.2⟩⟩
  have e0 : Env0 P w K mg (hidT s₁.heap H) callerA [] s₁ H := ⟨rfl, M, fun b o e => of_hidT e, Nat.le_of_eq (hidT_size _ _), trivial, fun b z => (List.not_mem_nil (show b ∈ ([] : List Addr) from z)).elim, hok, .of_eq hg⟩
  refine codeAny_mono ((F _ KH (spare hns)).runs callerA [] s₁ H ⟨[.ref a], []⟩ [.ref a] [.ref a] _ _ rfl hr e0 (hbind s₁ (.ref a)) (.cons rfl .nil) h) ?_
  rintro r s' hq
  rcases r with e | fl
  · exact False.elim hq
  cases fl with
  | ret u =>
    obtain ⟨v, H', os, bare, un, hok', ru, rfl⟩ := hq
    obtain rfl : u = Value.bool true := ru
    refine ⟨rfl, OldK.of_keep fun b o e => ?_, os, bare⟩
    rcases hO b with z | ⟨ob, xs, z⟩
    · exact un.keep b o e z (fun q => nomatch (show b ∈ ([] : List Addr) from q)) (fun q => nomatch q)
    · have e1 := (hok b _ z).1
      have e2 := (hok' b _ (un.frzs b ob _ z)).1
      rw [e] at e1
      cases e1
      exact e2
  | _ => exact False.elim hq
theorem lawG_call (KX : K.In s₁.heap) (hns : s₁.heap.Ns mainGlobals mg) (hb : s₁.heap.Ns builtinsNs mb) (hbb : ∀ x : Str, x ≠ "__name__" → mb x = bootBuiltins x) (hlim : s₁.heap.NoLimit) (hg : s₁.gens = #[])
    (ha : s₁.heap.get? a = some { cls := .type "list", data := .seq vs.toArray }) (hi : IntsAre vs ns) (hl : ns.length ≤ sizeLine) (hr : Room k callerA)
    (F : ∀ base : Heap, K.In base → base.Ns mainGlobals mg → FnG P w K mg base CX0 k fa fd [x] sp) (hbind : ∀ (s : Shared) (u : Value), BindsTo s fd ⟨[u], []⟩ [(x, u)])
    (hsp : ∀ H : Hp, Only H → SqL K H a (ns.map V.int) → sp [.ref a] H (fun v _ => v = .bl true) fun _ _ _ => False) :
    codeAny (model P w) callerA (.call (.ref fa) ⟨[.ref a], []⟩) (fun r s' => r = .ok (.ret (.bool true)) ∧ OldK s₁.heap s'.heap ∧ s'.os = s₁.os ∧ AllBare s'.gens) s₁ := by
  have rv := vals_ints hi
  have zl : vs.length ≤ sizeLine := by rw [hi.length]; exact hl
  by_cases hk : K.lookup a = none
  · let H : Hp := fun b => if b = a then some (.frz { cls := .type "list", data := .seq vs.toArray } (.lst (ns.map V.int))) else none
    have at_a : H a = some (.frz { cls := .type "list", data := .seq vs.toArray } (.lst (ns.map V.int))) := if_pos rfl
    have off : ∀ b, b ≠ a → H b = none := fun b n => if_neg n
    have hA : ∀ b, H b ≠ none → b = a := fun b n => Classical.byContradiction fun z => n (off b z)
    have hO : Only H := fun b => by
      by_cases z : b = a
      · subst z; exact .inr ⟨_, _, at_a⟩
      · exact .inl (off b z)
    refine lawG_at hns hb hbb hlim hg ha hr F hbind H hO (fun b u z => ?_) hA (fun b o e => hidT_get (KX b o e) ?_) (hsp H hO (.inl (.inr ⟨_, at_a⟩)))
    · have e := hA b (by rw [z]; exact nofun)
      subst e
      rw [at_a] at z
      cases z
      exact ⟨ha, by rw [List.length_map]; exact hl, vs, _, rv, ha⟩
    · refine off b fun z => ?_
      subst z
      rw [hk] at e
      cases e
  · obtain ⟨o, ho⟩ := Option.ne_none_iff_exists'.mp hk
    have e := KX a o ho
    rw [ha] at e
    cases e
    have hO : Only (fun _ => none) := fun _ => .inl rfl
    refine lawG_at hns hb hbb hlim hg ha hr F hbind (fun _ => none) hO (fun b u z => nomatch (show (none : Option HO) = some u from z)) (fun b z => absurd rfl z) (fun b o e => hidT_get (KX b o e) rfl) (hsp _ hO ?_)
    exact .inr ⟨_, vs.toArray, _, ho, rfl, rfl, rfl, by rw [List.size_toArray]; exact zl, by simpa using rv⟩
end
theorem walk_G {l : PySem.W.OpenLaw} {n k : Nat} {q : Program} {loose : List Str} {XP : (Str → Option Value) → Heap → Prop} {YP : World → Heap → Prop} {d : DefRec} {K : Params → PySem.W.Frag} {sp : PySem.W.Frag → Sp} {x : Str}
    (hn : l.most = some n) (hn2 : n ≤ sizeLine) (hdf : d.params.defaults = []) (hr : Room k callerA) (hY : ∀ (w : World) (h : Heap), YP w h → (K w.params).In h)
    (F : ∀ (w : World) (mg : Str → Option Value) (fa : Addr) (h : Heap), (K w.params).In h → h.Ns mainGlobals mg → mg d.name = some (.ref fa) →
      ∃ fd : FuncData, (∀ (s : Shared) (u : Value), BindsTo s fd ⟨[u], []⟩ [(x, u)]) ∧ ∀ base : Heap, (K w.params).In base → base.Ns mainGlobals mg → FnG l.prog w (K w.params) mg base CX0 k fa fd [x] (sp (K w.params)))
    (hsp : ∀ (K : PySem.W.Frag) (H : Hp) (a : Addr) (ns : List Int), ns.length ≤ n → SqL K H a (ns.map V.int) → sp K [.ref a] H (fun v _ => v = .bl true) fun _ _ _ => False) :
    PySem.W.WalkO q loose XP YP l.row.toRowW d [] (fun f vs => PySem.call f vs) := by
  refine Att.attach_call hn hdf fun w s₀ s₁ mg mb fa o pm cd dc a vs ns G Y ho hd hcd hmg hobj hints hlen hg => ?_
  obtain ⟨fd, hb, hF⟩ := F w mg fa _ (hY w _ Y) G.T.g hmg
  exact lawG_call (hY w _ Y) G.T.g G.T.b G.T.builtins G.T.nolimit hg hobj hints (Nat.le_trans hlen hn2) hr hF hb fun H _ hS => hsp _ H a ns hlen hS
end Br

set_option Elab.async false
set_option linter.all false
set_option maxRecDepth 100000
set_option maxHeartbeats 4000000
/-! Exceptions that are caught and kept behind the clause, and looked at there. -/
namespace Br
open PySem PySem.Spec PyProof.Rows L2
/-- at e: an exception of the class cls, its dict (if any) at d -/
def exv (e : Addr) (cls : Value) (d : Option Addr) : HO := .ext fun h => ∃ (o : Obj) (vs : Array Value), h.get? e = some o ∧ o.cls = cls ∧ o.dict = d ∧ o.data = .fields vs
theorem exv_ok {P : Program} {w : World} {H : Hp} {h : Heap} {e : Addr} {cls : Value} {d : Option Addr} {o : Obj} {vs : Array Value} (he : h.get? e = some o) (hz : Zc cls d o) (hd : o.data = .fields vs) : ObjOk P w H h e (exv e cls d) :=
  ⟨⟨o, vs, he, hz.1, hz.2, hd⟩, ⟨o, he⟩, fun h1 h2 z k => by
    obtain ⟨o, vs, q, r⟩ := z
    exact ⟨o, vs, k _ q, r⟩⟩
theorem exv_at {P : Program} {w : World} {H : Hp} {h : Heap} {e : Addr} {cls : Value} {d : Option Addr} (ok : HOk P w H h) (he : H e = some (exv e cls d)) : ∃ (o : Obj) (vs : Array Value), h.get? e = some o ∧ o.cls = cls ∧ o.dict = d ∧ o.data = .fields vs := by
  have x : ObjOk P w H h e (.ext fun h => ∃ (o : Obj) (vs : Array Value), h.get? e = some o ∧ o.cls = cls ∧ o.dict = d ∧ o.data = .fields vs) := ok e _ he
  exact x.1
section
variable {X : Cx} {pins : List (Addr × Obj)} {σ : L2.St} {H : Hp} {s : Shared}
/-- an exception that stands untracked, made since the def began, is tracked from here on -/
theorem track {a : Addr} {oe : Obj} {vs : Array Value} {cls : Value} {d : Option Addr} (I : Inv X pins σ H s) (ha : s.heap.get? a = some oe) (hz : Zc cls d oe) (hd : oe.data = .fields vs) (na : H a = none)
    (n0 : X.s_0.heap.get? a = none) (nL : a ≠ X.env.locals) (np : ∀ p ∈ X.pn ++ pins, p.1 ≠ a) : Inv X pins σ (upd H a (exv a cls d)) s where
  ok := I.ok
  os := I.os
  bare := I.bare
  base := {
    keep := I.base.keep
    slot := I.base.slot
    free := fun b o q n hx => by
      rw [upd_ne (fun z => by rw [z, n0] at q; cases q)]
      exact I.base.free b o q n hx
    there := I.base.there
    tups := fun b xs q => by
      have r := I.base.tups b xs q
      rw [upd_ne (ne_of_none r na)]
      exact r
    frzs := fun b o u q => by
      have r := I.base.frzs b o u q
      rw [upd_ne (ne_of_none r na)]
      exact r
    tbls := fun b ps q => by
      obtain ⟨m, r⟩ := I.base.tbls b ps q
      exact ⟨m, by rw [upd_ne (ne_of_none r na)]; exact r⟩ }
  loc := I.loc
  cell := I.cell
  free := by rw [upd_ne nL.symm]; exact I.free
  freeC := fun x c e => by
    rw [upd_ne (fun z => ?_)]
    · exact I.freeC x c e
    · obtain ⟨v, o, e1, e2⟩ := I.cell x c e
      rw [z, ha] at e1
      cases e1
      rw [hd] at e2
      cases e2
  pin := fun p hp => by
    obtain ⟨e, n, r⟩ := I.pin p hp
    exact ⟨e, by rw [upd_ne (np p hp)]; exact n, r⟩
  hok := fun b o q => by
    by_cases hb : b = a
    · subst hb
      rw [upd_same] at q
      cases q
      exact exv_ok ha hz hd
    · rw [upd_ne hb] at q
      exact (I.hok b o q).stay (fun _ _ _ z => z) (fun c z => by rw [upd_ne (ne_of_none z na)]; exact z) fun c xs z => by rw [upd_ne (ne_of_none z na)]; exact z
  len := I.len
end

/-- what is wished of an exception of the body of «try: .. except x as n: suite», where what the clause took is kept behind it -/
def wKeep (K : PySem.W.Frag) (c : Value) (i : Nat) (ts : Addr → Value → Option Addr → TS) (Wout : WX) (D : Ends) : WX := fun cls d σ H =>
  ∃ b, PySem.W.exmOne K cls c = some b ∧ (b = true → ∀ a, H a = none → ts a cls d { nx := fun σ' H' => H' a = none → D.nx (σ'.set i none) (upd H' a (exv a cls d)), rt := fun _ _ => False, bk := fun _ _ => False, ct := fun _ _ => False } (σ.set i (some (.ref a))) H) ∧ (b = false → Wout cls d σ H)
section
variable {X : Cx} {x n : Str} {c : Value} {i : Nat} {body suite : List Stmt} {b₀ : Stmt} {np pos pos' : Pos} {tb : WX → TS} {ts : Addr → Value → Option Addr → TS} {Wout : WX}
theorem ps_try_keep (hs : X.stack = X.env :: X.outer) (hf : X.env.frame = some X.env.locals) (hN : X.N.Nodup) (hi : X.N[i]? = some n) (hln : X.env.kindOf n = some .local) (hc : Names X x c) (tk : Takes X Wout) (hex : X.ex = [])
    (hb : ∀ (W : WX) (pn : List (Addr × Obj)) (xe : Value → Shared → Prop), Takes (X.tr pn xe) W → PassesOwn (model X.prog X.w) X.A X.env xe → PSs (X.tr pn xe) body (tb W))
    (hsu : ∀ (a : Addr) (oe : Obj) (cls : Value) (d : Option Addr) (pn : List (Addr × Obj)), Zc cls d oe → (∃ vs, oe.data = .fields vs) → PSs (X.suite a ((a, oe) :: pn)) (b₀ :: suite) (ts a cls d)) :
    PS X (.Try body [.ExceptHandler (some (.Name x np)) (some n) (b₀ :: suite) pos'] [] [] pos) (fun D σ H => tb (wKeep X.K c i ts Wout D) D σ H) := by
  constructor
  intro pins s σ H D I h
  have ok := I.ok
  have hfr : X.A.frames = some (X.env :: X.outer) := by rw [ok.frames, hs]
  refine wpAny_Try_except (wpAny_mono ((hb (wKeep X.K c i ts Wout D) (X.pn ++ pins) (fun e s₁ => wpAny (model X.prog X.w) X.A (noteFrame e X.env) (fun _ s₂ => wpAny (model X.prog X.w) X.A (setFlight e none) (fun _ s₃ =>
    wpAny (model X.prog X.w) X.A (handleBy e X.env [.ExceptHandler (some (.Name x np)) (some n) (b₀ :: suite) pos']) (SP X pins D) X.xe s₃) X.xe s₂) X.xe s₁) (fun u s' xx => ?_) PassesOwn.looking).run [] s σ H D (I.toTry _) h) (fun fl s1 q => ?_) (fun e s1 q => q))
  · obtain ⟨a, B, sI, pins', σ', H', cls, d, rfl, J', nb, up, sky, na, os, ag, b, hb1, hyes, hno⟩ := xx
    have J : Inv X pins σ' H' sI := J'.ofTry ok
    rw [show (X.tr (X.pn ++ pins) _).stack = X.env :: X.outer from hs] at sky
    show wpAny (model X.prog X.w) X.A (noteFrame (.ref a) X.env) _ _ _
    refine Sky.land Zc.steady hfr hf sky fun h3 fl3 up3 => ?_
    have J3 : Inv X pins σ' H' { s' with heap := h3 } := J.landed nb fl3.1 (up.trans up3) os ag
    obtain ⟨oe3, vs3, he3, hz3, hd3⟩ := fl3.there
    have nB : B.get? a = none := fl3.2.1
    have nfr : a ∉ frs (X.env :: X.outer) := fun hm => by
      obtain ⟨_, o', e', hnf⟩ := fl3.2.2.1.mem hm
      rw [he3] at e'
      cases e'
      exact hnf _ hd3
    have nL : a ≠ X.env.locals := fun z => nfr (List.mem_filterMap.mpr ⟨X.env, List.mem_cons_self, by rw [hf, z]⟩)
    have nF : a ∉ X.fs := fun hm => by
      obtain ⟨e, he, q⟩ := List.mem_filterMap.mp hm
      exact nfr (List.mem_filterMap.mpr ⟨e, List.mem_cons_of_mem _ he, q⟩)
    have nstk : a ∉ frs X.stack := by rw [hs]; exact nfr
    have nI : sI.heap.get? a = none := by
      cases q : sI.heap.get? a with
      | none => rfl
      | some o =>
        have z := nb a o q nstk
        rw [nB] at z
        cases z
    have n0 : X.s_0.heap.get? a = none := by
      cases q : X.s_0.heap.get? a with
      | none => rfl
      | some o =>
        obtain ⟨o', z⟩ := J.base.there a o q (by rw [hex]; exact List.not_mem_nil)
        rw [nI] at z
        cases z
    have npin : ∀ p ∈ X.pn ++ pins, p.1 ≠ a := fun p hp z => by
      have e := (J.pin p hp).1
      rw [z, nI] at e
      cases e
    have S3 := J3.suite he3 hd3 na nL nF
    refine wpAny_handleBy_cons (codeAny_handlers_test ?_) (by intro q; cases q)
    have LT : PySem.W.Looks (model X.prog X.w) h3 (typeOf (.ref a)) cls := fun _ _ _ _ k q => wpAny_typeOf_ref (k _ _ he3) (by rw [hz3.1]; exact q)
    have LM := PySem.W.exm_one (M := model X.prog X.w) J3.kIn LT hb1
    have test : ∀ {Q : Value → Shared → Prop} {E : Value → Shared → Prop}, Q c { s' with heap := h3 } → wpAny (model X.prog X.w) (X.A.mark (some (.ref a))) (eval (.Name x np) X.env) Q E { s' with heap := h3 } := by
      intro Q E q
      obtain ⟨hg, hdbg, hm | ⟨hm, hv, hnn⟩⟩ := hc
      · exact ld_glob (X := X.suite a ((a, oe3) :: (X.pn ++ pins))) S3 hg hm q hdbg
      · exact ld_blt (X := X.suite a ((a, oe3) :: (X.pn ++ pins))) S3 hg hm hv q hnn hdbg
    refine test (LM.here ?_)
    cases b with
    | true =>
      refine codeAny_handlers_suite_as (HandSPX.lands_againZ fl3 fun h4 fl4 up4 => ?_)
      have J4 : Inv X pins σ' H' { s' with heap := h4 } := J.landed nb fl4.1 ((up.trans up3).trans up4) os ag
      obtain ⟨oe4, vs4, he4, hz4, hd4⟩ := fl4.there
      refine store_ok (X := X.suite a ((a, oe4) :: (X.pn ++ pins))) (v := .ref a) (J4.suite he4 hd4 na nL nF) hN hi (.inl hln) rfl (fun s5 S5 => ?_) (.inr hln)
      refine wpAny_mono ((hsu a oe4 cls d (X.pn ++ pins) hz4 ⟨_, hd4⟩).run [] s5 _ H' _ S5 (hyes rfl a na)) (fun f s6 hsp => ?_) (fun _ _ z => False.elim z)
      cases f with
      | next =>
        obtain ⟨σ6, H6, S6, q6⟩ := hsp
        obtain ⟨g1, g2, _⟩ := S6.pin (a, oe4) (List.mem_append_left _ List.mem_cons_self)
        exact gone_ok (track (S6.unsuite ok) g1 hz4 hd4 g2 n0 nL npin) hN hi hln fun s7 J7 => ⟨_, _, J7, q6 g2⟩
      | brk => exact hsp.elim fun _ z => z.elim fun _ z => z.2.elim
      | cont => exact hsp.elim fun _ z => z.elim fun _ z => z.2.elim
      | ret u => exact hsp.elim fun _ z => z.elim fun _ z => z.elim fun _ z => z.2.2.elim
    | false =>
      show wpAny _ X.A (handleBy (.ref a) X.env []) _ _ _
      refine wpAny_handleBy_nil ?_
      obtain ⟨k1, k2, k3, oe, vs, T, oT, ts', he, hz, hd, h1, hr⟩ := id fl3
      unfold PySem.passOn
      refine wpAny_bind (wpAny_field he hd h1 ?_)
      rw [if_neg (show ¬ ((Value.ref T == Value.none) = true) from by simp)]
      have fin : wpAny (model X.prog X.w) X.A (setFlight (.ref a) X.env.frame) (fun _ s4 => wpAny (model X.prog X.w) X.A (throw (.ref a) : Sem Flow) (SP X pins D) X.xe s4) X.xe { s' with heap := h3 } := by
        rw [hf]
        exact HandSPX.setFlight_upZ fl3 fun h4 hh4 up4 => wpAny_throw (tk _ _ ⟨a, B, sI, pins, σ', H', cls, d, rfl, J, nb, (up.trans up3).trans up4, .inr (.inr (by rw [hs]; exact hh4)), na, os, ag, hno rfl⟩)
      first
        | exact wpAny_bind (wpAny_pure (wpAny_bind fin))
        | exact wpAny_bind fin
  · cases fl with
    | next => obtain ⟨σ', H', K', z⟩ := q; exact wpAny_execs_nil ⟨σ', H', K'.ofTry ok, z⟩
    | brk => obtain ⟨σ', H', K', z⟩ := q; exact ⟨σ', H', K'.ofTry ok, z⟩
    | cont => obtain ⟨σ', H', K', z⟩ := q; exact ⟨σ', H', K'.ofTry ok, z⟩
    | ret u => obtain ⟨v, σ', H', K', r, z⟩ := q; exact ⟨v, σ', H', K'.ofTry ok, r, z⟩
end

/-! ### isinstance and fields of what is kept -/
section
open PySem.W PySem.Calls
variable {prog : Program} {w : World} {A : Around} {E : Value → Shared → Prop} {s : Shared} {K : Frag} {x D : Addr} {ox : Obj} {od : Option Obj}
theorem find_class (C : ExcC K D) : findObj K D od "__class__" = some (.bind (.builtin "getset_descriptor.__get__") (.builtin "object.__class__")) := by
  obtain ⟨cd, hc, _⟩ := any_some C.hd
  unfold findObj
  rw [hc, Option.bind_some, C.ha, Option.bind_some]
  simp [C.hn, C.ht]
/-- x.__class__ of an exception, whatever its dict -/
theorem class_of_exc {Q : Option Value → Shared → Prop} (C : ExcC K D) (X : K.In s.heap) (I : W.InstAt s.heap x ox D od) (h : Q (some (.ref D)) { s with toks := s.toks + 1 }) : wpAny (model prog w) A (getAttr? (.ref x) "__class__") Q E s := by
  obtain ⟨hp, gs, dr, t, os⟩ := s
  have la := I.type (M := model prog w)
  have lb := looks_findIn (M := model prog w) X C.hg
  have lc := looks_findIn (M := model prog w) X C.hk
  have ld := looks_find (M := model prog w) X I (find_class C)
  have le : Looks (model prog w) hp (isInstance (.ref x) (.type "BaseException")) true := la.andThen (looks_subIn X C.hs)
  have ne : (Value.builtin "BaseException.__getattribute__" == Value.builtin "object.__getattribute__") = false := by decide +kernel
  have ne2 : (onTheHeap (Value.ref D) && (Value.builtin "BaseException.__getattribute__" == Value.builtin "object.__getattribute__")) = false := by rw [ne]; rfl
  unfold getAttr? getAttrBy? getAttrBy
  refine wpAny_bind (wpAny_mkText (wpAny_bind (wpAny_attempt (wpAny_holding (wpAny_bind (la.at (wpAny_bind (lb.at ?g0))))))))
  case g0 =>
  show wpAny _ _ (if (onTheHeap (Value.ref D) && (Value.builtin "BaseException.__getattribute__" == Value.builtin "object.__getattribute__")) = true then _ else _) _ _ _
  rw [ne2, if_neg Bool.false_ne_true]
  unfold getAttrByItsOwn hookBefore
  refine wpAny_bind ?g1
  case g1 =>
  rw [if_pos (show onTheHeap (Value.ref D) = true from rfl)]
  refine lc.at (wpAny_bind (wpAny_attempt (wpAny_holding ?g2)))
  case g2 =>
  unfold callGetattribute
  rw [show (false && onTheHeap (Value.builtin "BaseException.__getattribute__")) = false from rfl, if_neg Bool.false_ne_true]
  unfold boundAndCalled
  rw [PySem.F.excAttr_ValueError.ga.bind (.ref x)]
  refine wpAny_bind (wpAny_pure ?g3)
  case g3 =>
  show wpAny _ _ (call (.builtin "BaseException.__getattribute__") [.ref x, .str "__class__" t]) _ _ _
  refine wpAny_call (codeAny_call_builtin PySem.F.excAttr_ValueError.ga.plain PySem.F.entry_bexc_ga ?g4)
  case g4 =>
  refine @check_slot (model prog w) _ _ ⟨hp, gs, dr, t + 1, os⟩ "BaseException.__getattribute__" "BaseException" "__getattribute__" (.ref x) [.str "__class__" t] [] _ (by decide +kernel) (by decide +kernel) le (PySem.F.args_bexc_ga (.ref x) (.str "__class__" t)) ?g5
  case g5 =>
  unfold Builtin.«object.__getattribute__»
  refine wpAny_bind (wpAny_of_eq (a := ((Value.ref x : Value), [Value.str "__class__" t])) (by first | rfl | (simp only [slotArgs]; rfl)) ?g6)
  case g6 =>
  refine wpAny_bind (wpAny_pure (wpAny_bind (la.at (wpAny_bind (ld.at ?g7)))))
  case g7 =>
  show wpAny _ _ (holding [Value.builtin "object.__class__"] (call (.builtin "getset_descriptor.__get__") [.builtin "object.__class__", .ref x, .ref D]) >>= ret) _ _ _
  refine wpAny_bind (wpAny_holding (wpAny_call (class_get (s := ⟨hp, gs, dr, t + 1, os⟩) (ox := ox) (od := od) X I C.hm ?g8)))
  case g8 =>
  refine wpAny_pure ?g9
  case g9 =>
  show wpAny _ _ (handedOut (.ref D)) _ _ _
  rw [handedOut_of (v := .ref D) rfl]
  first
    | exact wpAny_pure (wpAny_pure h)
    | exact wpAny_pure h
    | exact wpAny_pure (wpAny_bind (wpAny_pure (wpAny_pure h)))
theorem cls_there (C : ExcC K D) : ∃ c d cd sl, K.lookup D = some ⟨c, d, .cls cd, sl⟩ := by
  obtain ⟨cd, hc, _⟩ := any_some C.hd
  unfold clsIn at hc
  split at hc
  · rename_i c d cd' sl ho
    exact ⟨c, d, cd', sl, ho⟩
  · cases hc
theorem kit_exc (C : ExcC K D) : KitX K (.ref x) (.ref D) (fun h => W.InstAt h x ox D od) where
  ty := fun _ _ _ I => I.type
  it := fun _ _ X _ => by
    obtain ⟨c, d, cd, sl, ho⟩ := cls_there C
    intro A' Q' E' s' k q
    unfold isType loadHead
    exact wpAny_bind (wpAny_loadPart (k _ _ (X _ _ ho)) (wpAny_pure q))
  ne := fun h tp dd its n sl X htp => by
    obtain ⟨c, d, cd, sl', ho⟩ := cls_there C
    refine Bool.eq_false_iff.mpr fun q => ?_
    have e : D = tp := Value.ref.inj (beq_iff_eq.mp q)
    subst e
    cases (X _ _ ho).symm.trans htp
  ca := fun X I k => class_of_exc C X I k
end
section
variable {X : Cx}
theorem exv_inst {pins : List (Addr × Obj)} {σ : L2.St} {H : Hp} {s : Shared} {a D dd : Addr} {fs : List (Str × V)} (I : Inv X pins σ H s) (ha : H a = some (exv a (.ref D) (some dd))) (hd : H dd = some (.xd fs)) :
    ∃ (oe od : Obj) (mA : Str → Option Value), PySem.W.InstAt s.heap a oe D (some od) ∧ s.heap.get? dd = some od ∧ s.heap.Ns1 dd mA ∧ ∀ f, RelO (fs.lookup f) (mA f) := by
  obtain ⟨oe, vs, h1, h2, h3, h4⟩ := exv_at I.hok ha
  obtain ⟨mA, hns, hr⟩ := (show ObjOk X.prog X.w H s.heap dd (.xd fs) from I.hok dd _ hd)
  obtain ⟨od, ho, hl⟩ := lookIn_ns hns
  exact ⟨oe, od, mA, ⟨h1, h2, by unfold PySem.W.notCls; rw [h4] <;> rfl, by rw [h3]; exact ho⟩, ho, hns, hr⟩
/-- isinstance(e, c) of what is kept -/
theorem call_isV : CallR X (.builtin "isinstance") (fun xs H Q => ∃ (a D dd : Addr) (fs : List (Str × V)) (c : V) (cv : Value) (b : Bool), xs = [.ref a, c] ∧ H a = some (exv a (.ref D) (some dd)) ∧ H dd = some (.xd fs) ∧ ExcC X.K D ∧ ClsV c cv ∧ PySem.W.kitOne X.K (.ref D) cv = some b ∧ Q (.bl b) H) := by
  intro pins s σ H xs us Q I r h
  obtain ⟨a, D, dd, fs, c, cv, b, rfl, ha, hd, C, k, e, q⟩ := h
  obtain ⟨u1, u2, rfl, r1, r2⟩ := vals2 r
  cases (show u1 = Value.ref a from r1)
  cases k.eq r2
  obtain ⟨oe, od, mA, J, _⟩ := exv_inst I ha hd
  exact PySem.W.kia_one (kit_exc C) I.kIn J e (fun z => nomatch z) fun tk => ⟨.bl b, H, I.tok tk, rfl, q⟩
/-- isinstance(e, (c1, c2, ..)) of what is kept -/
theorem call_isVT : CallR X (.builtin "isinstance") (fun xs H Q => ∃ (a D dd tp : Addr) (fs : List (Str × V)) (cs : List V) (ws : List Value) (b : Bool), xs = [.ref a, .ref tp] ∧ H a = some (exv a (.ref D) (some dd)) ∧ H dd = some (.xd fs) ∧ H tp = some (.tup cs) ∧ ExcC X.K D ∧ Paired ClsV cs ws ∧ PySem.W.kitAny X.K (.ref D) ws = some b ∧ Q (.bl b) H) := by
  intro pins s σ H xs us Q I r h
  obtain ⟨a, D, dd, tp, fs, cs, ws, b, rfl, ha, hd, hT, C, k, e, q⟩ := h
  obtain ⟨u1, u2, rfl, r1, r2⟩ := vals2 r
  cases (show u1 = Value.ref a from r1)
  cases (show u2 = Value.ref tp from r2)
  obtain ⟨oe, od, mA, J, _⟩ := exv_inst I ha hd
  obtain ⟨_, its, rv, o, h1, h2, n, h3⟩ := (show ObjOk X.prog X.w H s.heap tp (.tup cs) from I.hok tp _ hT)
  cases ClsV.all k rv
  obtain ⟨oc, o2, dt, sl⟩ := o
  cases (show oc = _ from h2)
  cases (show dt = _ from h3)
  exact PySem.W.kia_tup (kit_exc C) I.kIn J h1 e (fun z => nomatch z) fun tk => ⟨.bl b, H, I.tok tk, rfl, q⟩
/-- e.f of what is kept -/
def tXv (K : PySem.W.Frag) (f : Str) (te : TE) : TE := fun σ H Q => te σ H fun x H1 => ∃ (a D dd : Addr) (fs : List (Str × V)) (v : V), x = .ref a ∧ H1 a = some (exv a (.ref D) (some dd)) ∧ H1 dd = some (.xd fs) ∧ XfC K D ∧ PySem.W.findIn K (.ref D) f = some none ∧ fs.lookup f = some v ∧ Q v H1
theorem pe_xv {e : Expr} {te : TE} {pos : Pos} {f : Str} (he : PE X e te) (hb : attributeBase e f X.env (eval e X.env) = eval e X.env := by rfl) : PE X (.Attribute e f pos) (tXv X.K f te) := by
  constructor
  intro pins s σ H Q I h
  refine attr_of hb (thn (he.run pins s σ H _ I h) fun u s1 hh => ?_)
  obtain ⟨x, H1, I1, rx, a, D, dd, fs, v, ex, ha, hd, T, hno, l, q⟩ := hh
  subst ex
  cases (show u = Value.ref a from rx)
  obtain ⟨oe, od, mA, J, ho, hns, hr⟩ := exv_inst I1 ha hd
  obtain ⟨od', ho', hl⟩ := lookIn_ns hns
  cases ho.symm.trans ho'
  obtain ⟨u, hu, ru⟩ := RelO.some_of (v := v) (o := mA f) (by rw [← l]; exact hr f)
  exact HandSPX.exc_get I1.kIn J T.ga T.gg T.exC (PySem.W.findObj_own T.hdC hno rfl (by rw [hl, hu])) (handed_of ru) ⟨v, H1, I1.tok _, ru, q⟩
end

/-! ### what the written part says of own classes -/
section
open PySem.W
variable {K : Frag} {C D : Addr}
theorem cls_ok (h2 : isClsIn K D = true) (h3 : typeIn K (.ref D) = some (.type "type")) : ((clsIn K D).isSome && typeIn K (.ref D) == some (.type "type")) = true := by
  have h2' : (clsIn K D).isSome = true := h2
  rw [h2', h3]
  rfl
theorem exm_own (h1 : subIn K (.ref C) (.type "BaseException") = some true) (h2 : isClsIn K C = true) (h3 : typeIn K (.ref C) = some (.type "type")) (h4 : subIn K (.ref C) (.ref C) = some true) : exmOne K (.ref C) (.ref C) = some true := by
  unfold exmOne kitCls
  rw [h1]
  simp only [cls_ok h2 h3, if_true, h4]
  rfl
theorem kit_own (hs : subIn K (.ref C) (.ref C) = some true) (h : subIn K (.ref C) (.ref D) = some false) (h2 : isClsIn K D = true) (h3 : typeIn K (.ref D) = some (.type "type")) : kitOne K (.ref C) (.ref D) = some false := by
  have ne : (Value.ref C == Value.ref D) = false := by
    refine Bool.eq_false_iff.mpr fun q => ?_
    have e : C = D := Value.ref.inj (beq_iff_eq.mp q)
    rw [← e, hs] at h
    cases h
  unfold kitOne kitCls
  rw [ne]
  simp only [cls_ok h2 h3, if_true, h, Bool.false_eq_true, if_false]
theorem kit_typ {T : String} {b : Bool} (h : subIn K (.ref C) (.type T) = some b) (m : kitMeta T = true) : kitOne K (.ref C) (.type T) = some b := by
  have ne : (Value.ref C == Value.type T) = false := rfl
  unfold kitOne kitCls
  rw [ne]
  simp only [m, if_true, h, Bool.false_eq_true, if_false]
end

section
variable {X : Cx}
/-- {x}: None, a text or a whole number -/
def tFmtA (te : TE) : TE := fun σ H Q => te σ H fun x H1 => (x = .non ∧ Q (.str "None") H1) ∨ (∃ y : Str, x = .str y ∧ y.length ≤ sizeLine ∧ Q (.str y) H1) ∨ ∃ i : Int, x = .int i ∧ i.natAbs.log2 < 1920 ∧ Q (.str (toString i)) H1
theorem pe_fmtA {e : Expr} {te : TE} {pos : Pos} (he : PE X e te) : PE X (.FormattedValue e (-1) none pos) (tFmtA te) := by
  constructor
  intro pins s σ H Q I h
  refine wpAny_FormattedValue_plain (thn (he.run pins s σ H _ I h) fun v s1 hv => ?_)
  obtain ⟨x, H1, I1, r1, q⟩ := hv
  rcases q with ⟨rfl, q⟩ | ⟨y, rfl, hz, q⟩ | ⟨i, rfl, hz, q⟩
  · cases r1
    exact wpAny_formatField_none ⟨.str "None", H1, I1.tok _, ⟨_, rfl⟩, q⟩
  · obtain ⟨t, rfl⟩ := r1
    exact wpAny_formatField_str ⟨.str y, H1, I1, ⟨t, rfl⟩, q⟩ ⟨.str y, H1, I1.tok _, ⟨_, rfl⟩, q⟩ hz
  · obtain ⟨t, rfl⟩ := r1
    exact wpAny_formatField_int hz ⟨.str (toString i), H1, I1.tok _, ⟨_, rfl⟩, q⟩
end
end Br

set_option Elab.async false
set_option linter.all false
set_option maxRecDepth 100000
set_option maxHeartbeats 4000000
/-! t < u of tuples whose items are whole numbers and texts, place by place of one kind. -/
namespace Br
open PySem PySem.Spec PyProof.Rows L2
def ltKey : Key → Key → Bool
  | .inl a, .inl b => decide (a < b)
  | .inr x, .inr y => decide (x.cps.toList < y.cps.toList)
  | _, _ => false
def lexK : List Key → List Key → Bool
  | x :: xs, y :: ys => if x = y then lexK xs ys else ltKey x y
  | [], _ :: _ => true
  | _, _ => false
/-- of one kind -/
def kin : Key → Key → Bool
  | .inl _, .inl _ => true
  | .inr _, .inr _ => true
  | _, _ => false
abbrev KeyV (k : Key) (u : Value) : Prop := RelV (kV k) u
theorem key_eqAt (Ar : Around) (s : Shared) {x y : Key} {u v : Value} (hu : KeyV x u) (hv : KeyV y v) (k : kin x y = true) : ∃ e, SeqAt.EqAt Ar s u v e ∧ (e = true ↔ x = y) := by
  match x, y, k, hu, hv with
  | .inl a, .inl b, _, hu, hv =>
    obtain ⟨t, rfl⟩ := hu
    obtain ⟨t', rfl⟩ := hv
    exact ⟨(a == b), SeqAt.EqAt.int_int a t b t', by simp⟩
  | .inr a, .inr b, _, hu, hv =>
    obtain ⟨t, rfl⟩ := hu
    obtain ⟨t', rfl⟩ := hv
    refine ⟨decide (a = b), ?_, by simp⟩
    intro prog w E Q h
    exact wpAny_eqBool_str h
theorem key_lt (Ar : Around) (s : Shared) {x y : Key} {u v : Value} (hu : KeyV x u) (hv : KeyV y v) (k : kin x y = true) (prog : Program) (w : World) (E : Value → Shared → Prop) (Q : Value → Shared → Prop) (h : Q (.bool (ltKey x y)) s) :
    wpAny (model prog w) Ar (richCompare .Lt u v) Q E s := by
  match x, y, k, hu, hv with
  | .inl a, .inl b, _, hu, hv =>
    obtain ⟨t, rfl⟩ := hu
    obtain ⟨t', rfl⟩ := hv
    exact (PyProof.Rows.lt_int h : wpAny (model prog w) Ar (compareOp .Lt (.int a t) (.int b t')) Q E s)
  | .inr a, .inr b, _, hu, hv =>
    obtain ⟨t, rfl⟩ := hu
    obtain ⟨t', rfl⟩ := hv
    exact (PySem.P.lt_str h : wpAny (model prog w) Ar (compareOp .Lt (.str a t) (.str b t')) Q E s)
section
open PySem.SeqAt
open PySem.AutoSeq1 (wpAny_loadPart')
open PySem.MeetsSeq PySem.MeetsSeq2 PySem.MeetsSeq3
theorem tuple_lt_keys (l b : Addr) (items items2 : Array Value) (n n2 : Nat) (dd dd2 : Option Addr) (sl sl2 : Array (Option Value)) (ks ms : List Key) (hi : Paired KeyV ks items.toList) (hj : Paired KeyV ms items2.toList) (hk : Paired (fun x y => kin x y = true) ks ms) :
    Meets (Builtin.«tuple.__lt__» ⟨[.ref l, .ref b], []⟩)
      (fun _ R s => s.heap.get? l = some { cls := .type "tuple", dict := dd, data := .seq items n, slots := sl } ∧ s.heap.get? b = some { cls := .type "tuple", dict := dd2, data := .seq items2 n2, slots := sl2 } ∧ R (.ok (.ret (.bool (lexK ks ms)))) s) :=
  .of_wp fun prog w Ar R s h => by
    obtain ⟨hp, gs, dr, tk, os⟩ := s
    obtain ⟨hl, hb, h⟩ := h
    have f2 := AutoSeq1.sub_tuple_tuple
    have z1 : items.size = ks.length := by rw [hi.length]; simp
    have z2 : items2.size = ms.length := by rw [hj.length]; simp
    have z3 := hk.length
    wp_walk using wpAny_loadPart' hl, wpAny_loadPart' hb, wpAny_forIn_list _ (fun rest q s' => q.1 = none ∧ s' = ⟨hp, gs, dr, tk, os⟩ ∧ ∃ (vs ws : List Value) (ks' ms' : List Key), rest = vs.zip ws ∧
      Paired KeyV ks' vs ∧ Paired KeyV ms' ws ∧ Paired (fun x y => kin x y = true) ks' ms' ∧ R (.ok (.ret (.bool (lexK ks' ms')))) ⟨hp, gs, dr, tk, os⟩) _
    case turn =>
      rintro ⟨y, x⟩ rest q s' ⟨hq, rfl, vs, ws, ks', ms', hz, hvi, hwi, hkk, hR⟩
      cases hkk with
      | nil =>
        cases hvi
        cases hz
      | cons kk hkk' =>
        cases hvi with
        | cons a hvi' =>
          cases hwi with
          | cons c hwi' =>
            rw [List.zip_cons_cons] at hz
            injection hz with hyx hrest
            injection hyx with hy hx
            subst hy hx
            unfold lexK at hR
            obtain ⟨e, he, hiff⟩ := key_eqAt Ar.in1 ⟨hp, gs, dr, tk, os⟩ a c kk
            refine wpAny_bind (he prog w _ _ ?_)
            cases e with
            | true =>
              rw [if_pos (hiff.mp rfl)] at hR
              wp_walk
              exact ⟨rfl, rfl, _, _, _, _, hrest, hvi', hwi', hkk', hR⟩
            | false =>
              rw [if_neg (fun z => absurd (hiff.mpr z) Bool.false_ne_true)] at hR
              have hri := key_lt Ar.in1 ⟨hp, gs, dr, tk, os⟩ a c kk prog w
              wp_walk using hri
              exact ⟨_, rfl, by simpa using hR⟩
    case fin =>
      rintro ⟨b1, b2⟩ s' ⟨hq, rfl, vs, ws, ks', ms', hz, hvi, hwi, hkk, hR⟩
      simp only at hq
      subst hq
      have hv : lexK ks' ms' = decide (items.size < items2.size) := by
        have e : decide (items.size < items2.size) = false := decide_eq_false (by omega)
        rw [e]
        cases hkk with
        | nil => rfl
        | cons kk hkk' =>
          cases hvi
          cases hwi
          rw [List.zip_cons_cons] at hz
          cases hz
      rw [hv] at hR
      wp_walk
      exact ⟨_, rfl, by simpa [Builtin.Tuple.tupleCompareSizes] using hR⟩
    case h =>
      exact ⟨rfl, rfl, items.toList, items2.toList, ks, ms, rfl, hi, hj, hk, h⟩
end
section
variable {X : Cx}
theorem keys_of : ∀ {ks : List Key} {us : List Value}, Vals (ks.map kV) us → Paired KeyV ks us
  | [], _, .nil => .nil
  | _ :: _, _, .cons r t => .cons r (keys_of t)
def rLtN (K : PySem.W.Frag) : R2 := fun x y H Q => ∃ (a b : Addr) (ks ms : List Key), x = .ref a ∧ y = .ref b ∧ SqT K H a (ks.map kV) ∧ SqT K H b (ms.map kV) ∧ Paired (fun x y => kin x y = true) ks ms ∧ Q (.bl (lexK ks ms)) H
/-- t < u -/
theorem op_ltN0 (hu : X.A.units < cLine) : OpR X (compareOp .Lt) (fun x y H Q => ∃ (a b : Addr) (ks ms : List Key), x = .ref a ∧ y = .ref b ∧ SqT X.K H a (ks.map kV) ∧ SqT X.K H b (ms.map kV) ∧ Paired (fun x y => kin x y = true) ks ms ∧ Q (.bl (lexK ks ms)) H) := by
  intro pins s σ H x y v u Q I rx ry h
  obtain ⟨a, b, ks, ms, rfl, rfl, ha, hb, hk, q⟩ := h
  cases rx
  cases ry
  obtain ⟨its, r1, p1, _⟩ := I.tuple ha
  obtain ⟨its2, r2, p2, _⟩ := I.tuple hb
  obtain ⟨⟨cls, dd, data, sl⟩, ho, hc, n, hd⟩ := p1
  obtain ⟨⟨cls2, dd2, data2, sl2⟩, ho2, hc2, n2, hd2⟩ := p2
  simp only at hc hd hc2 hd2
  subst hc hd hc2 hd2
  exact richCompare_meets_room (op := .Lt) ⟨_, ho, rfl⟩ ⟨_, ho2, rfl⟩ PySem.F.slot_tuple_lt PySem.F.entry_tuple_lt (PySem.F.args_tuple_lt_2 _ _) (tuple_lt_keys a b _ _ n n2 dd dd2 sl sl2 ks ms (by simpa using keys_of r1) (by simpa using keys_of r2) hk)
    ⟨ho, ho2, show Value.bool (lexK ks ms) ≠ Value.notImplemented ∧ _ from ⟨(fun x => nomatch x), ⟨.bl (lexK ks ms), H, I, rfl, q⟩⟩⟩ hu
/-- the same, the written part by its name (for use within a comprehension) -/
theorem op_ltN (K : PySem.W.Frag) (hu : X.A.units < cLine) (hK : X.K = K := by rfl) : OpR X (compareOp .Lt) (rLtN K) := by
  subst hK
  exact op_ltN0 hu
theorem ix_tupK (K : PySem.W.Frag) (hK : X.K = K := by rfl) : IxR X (rIxT K) := by
  subst hK
  exact ix_tup
theorem ix_listK (K : PySem.W.Frag) (hK : X.K = K := by rfl) : IxR X (rIxL K) := by
  subst hK
  exact ix_list
theorem op_eqDK (K : PySem.W.Frag) (hu : X.A.units + 64 < cLine) (hK : X.K = K := by rfl) : OpR X (compareOp .Eq) (rEqD K) := by
  subst hK
  exact op_eqD hu
theorem op_neDK (K : PySem.W.Frag) (hu : X.A.units + 64 < cLine) (hK : X.K = K := by rfl) : OpR X (compareOp .NotEq) (rNeD K) := by
  subst hK
  exact op_neD hu
end
end Br

set_option Elab.async false
set_option linter.all false
set_option maxRecDepth 100000
set_option maxHeartbeats 4000000
/-! Texts split by one sign: the parts are the one way to write the text as parts without the sign, with the sign between. -/
namespace Br
open PySem PySem.Spec PyProof.Rows L2
def glue1 (c : Nat) : List (List Nat) → List Nat
  | [] => []
  | [a] => a
  | a :: b :: r => a ++ c :: glue1 c (b :: r)
theorem app_sep {c : Nat} : ∀ {a b x y : List Nat}, c ∉ a → c ∉ b → a ++ c :: x = b ++ c :: y → a = b ∧ x = y
  | [], [], _, _, _, _, h => by
    simp only [List.nil_append, List.cons.injEq, true_and] at h
    exact ⟨rfl, h⟩
  | [], b :: bs, _, _, _, hb, h => by
    simp only [List.nil_append, List.cons_append, List.cons.injEq] at h
    exact absurd (h.1 ▸ List.mem_cons_self) hb
  | a :: as, [], _, _, ha, _, h => by
    simp only [List.nil_append, List.cons_append, List.cons.injEq] at h
    exact absurd (h.1 ▸ List.mem_cons_self) ha
  | a :: as, b :: bs, _, _, ha, hb, h => by
    simp only [List.cons_append, List.cons.injEq] at h
    obtain ⟨h1, h2⟩ := app_sep (fun z => ha (List.mem_cons_of_mem _ z)) (fun z => hb (List.mem_cons_of_mem _ z)) h.2
    exact ⟨by rw [h.1, h1], h2⟩
theorem glue1_inj {c : Nat} : ∀ {ps qs : List (List Nat)}, ps ≠ [] → qs ≠ [] → (∀ p ∈ ps, c ∉ p) → (∀ p ∈ qs, c ∉ p) → glue1 c ps = glue1 c qs → ps = qs
  | [], _, h, _, _, _, _ => absurd rfl h
  | _, [], _, h, _, _, _ => absurd rfl h
  | [a], [b], _, _, _, _, h => by
    have h' : a = b := h
    rw [h']
  | [a], b :: b' :: r, _, _, ha, _, h => by
    have h' : a = b ++ c :: glue1 c (b' :: r) := h
    exact absurd (h' ▸ List.mem_append_right _ List.mem_cons_self) (ha a List.mem_cons_self)
  | a :: a' :: r, [b], _, _, _, hb, h => by
    have h' : a ++ c :: glue1 c (a' :: r) = b := h
    exact absurd (h' ▸ List.mem_append_right _ List.mem_cons_self) (hb b List.mem_cons_self)
  | a :: a' :: r, b :: b' :: t, _, _, ha, hb, h => by
    obtain ⟨h1, h2⟩ := app_sep (ha a List.mem_cons_self) (hb b List.mem_cons_self) (show a ++ c :: glue1 c (a' :: r) = b ++ c :: glue1 c (b' :: t) from h)
    rw [h1, glue1_inj (List.cons_ne_nil _ _) (List.cons_ne_nil _ _) (fun p hp => ha p (List.mem_cons_of_mem _ hp)) (fun p hp => hb p (List.mem_cons_of_mem _ hp)) h2]
theorem codes_app (x y : Str) : (x ++ y).cps.toList = x.cps.toList ++ y.cps.toList := Array.toList_append
theorem join_codes (c : Nat) : ∀ ps : List Str, (Str.join ⟨#[c]⟩ ps).cps.toList = glue1 c (ps.map fun p => p.cps.toList)
  | [] => rfl
  | [x] => rfl
  | x :: y :: r => by
    show (x ++ ⟨#[c]⟩ ++ Str.join ⟨#[c]⟩ (y :: r)).cps.toList = _
    rw [codes_app, codes_app, join_codes c (y :: r), List.append_assoc]
    rfl
/-- the parts, put together again -/
theorem split_codes (z : Str) (c : Nat) : glue1 c ((Txt.split z ⟨#[c]⟩).map fun p => p.cps.toList) = z.cps.toList := by
  unfold Txt.split
  split
  · rfl
  · split
    · rfl
    · rw [← join_codes, ← StrLaws.glued_eq_join]
      exact congrArg (fun s : Str => s.cps.toList) (StrLaws.glued_between_self z ⟨#[c]⟩ (z.length + 1))
theorem split_ne (z : Str) (c : Nat) : Txt.split z ⟨#[c]⟩ ≠ [] := by
  unfold Txt.split
  split
  · exact List.cons_ne_nil _ _
  · split
    · exact List.cons_ne_nil _ _
    · exact fun h => by
        have := length_partsBetween z (Builtin.Str.occurrences z ⟨#[c]⟩ 0 z.length (z.length + 1)) (⟨#[c]⟩ : Str).length
        rw [h] at this
        cases this
/-- the one way -/
theorem split_of {c : Nat} {ps : List Str} (hn : ps ≠ []) (hf : ∀ p ∈ ps, c ∉ p.cps.toList) {z : Str} (hz : z.cps.toList = glue1 c (ps.map fun p => p.cps.toList)) : Txt.split z ⟨#[c]⟩ = ps := by
  have e := glue1_inj (c := c) (ps := (Txt.split z ⟨#[c]⟩).map fun p => p.cps.toList) (qs := ps.map fun p => p.cps.toList) (by simpa using split_ne z c) (by simpa using hn)
    (fun p hp => by obtain ⟨q, hq, rfl⟩ := List.mem_map.mp hp; exact StrLaws.split_free z c q hq) (fun p hp => by obtain ⟨q, hq, rfl⟩ := List.mem_map.mp hp; exact hf q hq) (by rw [split_codes, hz])
  have inj : ∀ {as bs : List Str}, as.map (fun p => p.cps.toList) = bs.map (fun p => p.cps.toList) → as = bs := by
    intro as
    induction as with
    | nil =>
      intro bs h
      cases bs with
      | nil => rfl
      | cons b bs => cases h
    | cons a as ih =>
      intro bs h
      cases bs with
      | nil => cases h
      | cons b bs =>
        simp only [List.map_cons, List.cons.injEq] at h
        have e : a = b := by
          cases a; cases b
          simp only [Str.mk.injEq]
          exact Array.toList_inj.mp h.1
        rw [e, ih h.2]
  exact inj e
/-- x, the sign, y -/
theorem split_two {c : Nat} {x y : Str} (hx : c ∉ x.cps.toList) (hy : c ∉ y.cps.toList) : Txt.split (x ++ ⟨#[c]⟩ ++ y) ⟨#[c]⟩ = [x, y] := by
  refine split_of (List.cons_ne_nil _ _) (fun p hp => ?_) ?_
  · rcases List.mem_cons.mp hp with rfl | hp
    · exact hx
    · rw [List.mem_singleton.mp hp]; exact hy
  · rw [codes_app, codes_app, List.append_assoc]
    rfl
end Br

set_option Elab.async false
set_option linter.all false
set_option maxRecDepth 100000
set_option maxHeartbeats 4000000
/-! t[::-1] of a tuple of two items or more. -/
namespace Br
open PySem PySem.Spec PyProof.Rows L2
theorem places_back (n : Nat) : Builtin.Slice.slicePlaces ((n : Int) - 1) (-1) (-1) = n := by
  unfold Builtin.Slice.slicePlaces
  split
  all_goals first | omega | (simp; omega) | skip
theorem adjust_back (n : Nat) : Builtin.Slice.sliceAdjust none none (-1) (n : Int) = ((n : Int) - 1, -1) := by
  unfold Builtin.Slice.sliceAdjust
  rfl
theorem range_pick {α : Type} : ∀ l : List α, (List.range l.length).filterMap (fun m => l[m]?) = l
  | [] => rfl
  | a :: l => by
    rw [List.length_cons, List.range_succ_eq_map, List.filterMap_cons, List.filterMap_map]
    show a :: (List.range l.length).filterMap (fun m => l[m]?) = a :: l
    rw [range_pick l]
theorem fm_congr {α β : Type} {f g : α → Option β} : ∀ {l : List α}, (∀ a ∈ l, f a = g a) → l.filterMap f = l.filterMap g
  | [], _ => rfl
  | a :: l, h => by
    rw [List.filterMap_cons, List.filterMap_cons, h a List.mem_cons_self, fm_congr fun b hb => h b (List.mem_cons_of_mem _ hb)]
theorem pick_back (xs : Array Value) : ((List.range xs.size).filterMap fun (m : Nat) => xs[(((xs.size : Int) - 1) + (m : Int) * (-1)).toNat]?).toArray = xs.toList.reverse.toArray := by
  congr 1
  have e := range_pick xs.toList.reverse
  rw [List.length_reverse, Array.length_toList] at e
  refine Eq.trans ?_ e
  refine fm_congr fun m hm => ?_
  have hm' : m < xs.size := List.mem_range.mp hm
  rw [List.getElem?_reverse (by rw [Array.length_toList]; exact hm'), Array.length_toList]
  have ei : (((xs.size : Int) - 1) + (m : Int) * (-1)).toNat = xs.size - 1 - m := by omega
  rw [ei]
  exact (Array.getElem?_toList ..).symm
section
open HT
variable {prog : Program} {w : World} {A : Around} {E : Value → Shared → Prop} {s : Shared}
theorem applied_back {sl : Addr} {vl vu vs : Value} {n : Nat} {Q : Int × Int × Nat → Shared → Prop} (hs : s.heap.IsSliceOf sl vl vu vs) (pl : IsPart vl none) (pu : IsPart vu none) (pk : IsPart vs (some (-1)))
    (h : Q ((n : Int) - 1, -1, n) s) : wpAny (model prog w) A (Builtin.Slice.sliceApplied (.ref sl) (pure (n : Int))) Q E s := by
  obtain ⟨os, hos, hcs, hds⟩ := id hs
  unfold Builtin.Slice.sliceApplied Builtin.Slice.sliceFields
  refine wpAny_bind (wpAny_bind (wpAny_field hos hds (x := vl) rfl (wpAny_bind (wpAny_field hos hds (x := vu) rfl (wpAny_bind (wpAny_field hos hds (x := vs) rfl (wpAny_pure ?g)))))))
  case g =>
  refine wpAny_bind (slicePart_ pk ?g1)
  case g1 =>
  show wpAny _ _ (if ((-1 : Int) == 0) = true then _ else _) _ _ s
  rw [if_neg (by decide)]
  refine wpAny_bind (slicePart_ pl (wpAny_bind (slicePart_ pu (wpAny_bind (wpAny_pure ?g2)))))
  case g2 =>
  show wpAny _ _ (match Builtin.Slice.sliceAdjust none none (-1) (n : Int) with | (lo, hi) => pure (lo, (-1 : Int), Builtin.Slice.slicePlaces lo hi (-1))) _ _ s
  rw [adjust_back]
  show wpAny _ _ (pure ((n : Int) - 1, (-1 : Int), Builtin.Slice.slicePlaces ((n : Int) - 1) (-1) (-1))) _ _ s
  rw [places_back]
  exact wpAny_pure h
theorem getItem_tuple_back {t sl : Addr} {items : Array Value} {vl vu vs : Value} {Q : Value → Shared → Prop} (ht : IsTup s.heap t items) (hs : s.heap.IsSliceOf sl vl vu vs) (pl : IsPart vl none) (pu : IsPart vu none) (pk : IsPart vs (some (-1)))
    (h : Q (.ref s.heap.objs.size) { s with heap := s.heap.push { cls := .type "tuple", data := .seq items.toList.reverse.toArray } }) (hsz : items.size ≤ sizeLine) : wpAny (model prog w) A (getItem (.ref t) (.ref sl)) Q E s := by
  have hrev : sizeOk (.seq items.toList.reverse.toArray) := by
    show items.toList.reverse.toArray.size ≤ sizeLine
    rw [List.size_toArray, List.length_reverse, Array.length_toList]
    exact hsz
  obtain ⟨os, hos, hcs, hds⟩ := id hs
  have tys : s.TypeIs (.ref sl) "slice" := ⟨os, hos, hcs⟩
  unfold getItem
  try with_reducible refine wpAny_holding ?_
  first | refine wpAny_bind (wpAny_pure ?g0) | skip
  try case g0 => skip
  refine wpAny_bind (wpAny_sequenceKey ht.typeIs (by decide) ?_)
  refine wpAny_bind (wpAny_callSpecial?_slot (name := Str.ofString "__getitem__") ht.typeIs PyProof.Rows.slot_tuple_getitem (wpAny_call_entry PyProof.Rows.slot_tuple_getitem ht.typeIs entry_tuple_getitem ?g1 (args_tuple_getitem _ _)))
  case g1 =>
  show wpAny _ _ (Builtin.Tuple.tupleItemsOf (.ref t) >>= _) _ _ s
  refine wpAny_bind (tupleItemsOf_ ht (wpAny_bind (wpAny_typeOf tys ?g2)))
  case g2 =>
  rw [if_pos (by decide)]
  refine wpAny_bind (applied_back (n := items.size) hs pl pu pk ?g3)
  case g3 =>
  show wpAny _ _ (if (((items.size : Int) - 1) == 0 && (-1 : Int) == 1 && items.size == items.size) = true then _ else _) _ _ s
  rw [if_neg (by rw [show ((-1 : Int) == 1) = false from rfl, Bool.and_false, Bool.false_and]; exact Bool.false_ne_true), pick_back]
  first
    | exact wpAny_bind (m := Builtin.Tuple.tupleExact _) (wpAny_newObj_type (wpAny_pure ⟨_, rfl, wpAny_pure h⟩) hrev)
    | exact wpAny_bind (m := Builtin.Tuple.tupleExact _) (wpAny_newObj_type (wpAny_bind (wpAny_pure (wpAny_pure ⟨_, rfl, wpAny_pure h⟩))) hrev)
    | exact wpAny_bind (wpAny_bind (m := Builtin.Tuple.tupleExact _) (wpAny_newObj_type (wpAny_pure (wpAny_pure ⟨_, rfl, wpAny_pure h⟩)) hrev))
    | exact wpAny_bind (wpAny_bind (m := Builtin.Tuple.tupleExact _) (wpAny_newObj_type (wpAny_pure ⟨_, rfl, wpAny_pure h⟩) hrev))
end
section
variable {X : Cx}
/-- t[::-1] -/
def tRevT (K : PySem.W.Frag) (te : TE) : TE := fun σ H Q => te σ H fun x H1 => ∃ a xs, x = .ref a ∧ SqT K H1 a xs ∧ ∀ p, H1 p = none → Q (.ref p) (upd H1 p (.tup xs.reverse))
theorem pe_revT {e : Expr} {te : TE} {k : Nat} {p1 p2 p3 pos : Pos} (he : PE X e te) : PE X (.Subscript e (.Slice none none (some (.UnaryOp .USub (.Constant (.int 1) k p1) p2)) p3) pos) (tRevT X.K te) := by
  constructor
  intro pins s σ H Q I h
  refine Subscript_ (thn (he.run pins s σ H _ I h) fun v s1 hh => ?_)
  obtain ⟨x, H1, I1, r1, a, xs, ex, hx, q⟩ := hh
  subst ex
  cases (show v = Value.ref a from r1)
  have back : PO X (some (.UnaryOp .USub (.Constant (.int 1) k p1) p2)) (tPart (tUn (rU fun i => .int (-i)) (tC (.int 1)))) := po_some (pe_un un_neg pe_int)
  refine wpAny_Slice (thn (po_none.run pins s1 σ H1 (fun o H2 => o = none ∧ H2 = H1) I1 ⟨rfl, rfl⟩) fun vl s2 hl => ?_)
  obtain ⟨l, H2, I2, pl, rfl, rfl⟩ := hl
  refine thn (po_none.run pins s2 σ H2 (fun o H3 => o = none ∧ H3 = H2) I2 ⟨rfl, rfl⟩) fun vu s3 hu => ?_
  obtain ⟨u, H3, I3, pu, rfl, rfl⟩ := hu
  refine thn (back.run pins s3 σ H3 (fun o H4 => o = some (-1) ∧ H4 = H3) I3 ⟨1, rfl, -1, rfl, rfl, rfl⟩) fun vs s4 hk => ?_
  obtain ⟨o, H4, I4, pk, rfl, rfl⟩ := hk
  have I5 : Inv X pins σ H4 { s4 with heap := s4.heap.push { cls := .type "slice", data := .fields #[vl, vu, vs] } } := I4.kept (t' := s4.toks) fun b ob z => Heap.get?_push_of_some _ z
  obtain ⟨its, r, ht, hz⟩ := I5.tuple hx
  have hlen := r.length
  show wpAny (model X.prog X.w) X.A (subscriptTail e (.Slice none none (some (.UnaryOp .USub (.Constant (.int 1) k p1) p2)) p3) (.ref a) (.ref s4.heap.objs.size)) (EP X pins σ Q) X.xe { s4 with heap := s4.heap.push { cls := .type "slice", data := .fields #[vl, vu, vs] } }
  refine tail_any (ops := [.ref a, .ref s4.heap.objs.size]) ht.typeIs PyProof.Rows.slot_tuple_getitem.lookup ?_ (by with_unfolding_all rfl)
  refine getItem_tuple_back ht (Heap.IsSliceOf.new _ vl vu vs) pl pu pk ?_ (by rw [List.size_toArray]; omega)
  refine ⟨.ref _, _, I5.laid (t' := s4.toks) (o := .tup xs.reverse) (fun b ob z => Heap.get?_push_of_some _ z) (Nat.le_refl _) ?_, rfl, q _ (I5.hok.fresh (Nat.le_refl _))⟩
  exact ⟨by rw [List.length_reverse]; exact hz, its.reverse, r.reverse, IsTup.new _ _⟩
end
end Br

set_option Elab.async false
set_option linter.all false
set_option maxRecDepth 100000
set_option maxHeartbeats 4000000
/-! sorted(xs), xs a list of tuples (text, whole number). -/
namespace Br
open PySem PySem.Spec PyProof.Rows L2
def nkeys (n : Str × Int) : List Key := [.inr n.1, .inl n.2]
def ltN (x y : Str × Int) : Bool := lexK (nkeys x) (nkeys y)
/-- a tuple (text, number) stands at v -/
def NameAt (K : PySem.W.Frag) (H : Hp) (v : V) (n : Str × Int) : Prop := ∃ b, v = .ref b ∧ SqT K H b ((nkeys n).map kV)
def rawKey (n : Str × Int) : List (Int ⊕ List Nat) := [.inr n.1.cps.toList, .inl n.2]
theorem str_ext {x y : Str} (h : x.cps.toList = y.cps.toList) : x = y := by
  cases x; cases y
  simp only [Str.mk.injEq]
  exact Array.toList_inj.mp h
theorem raw_lt (x y : Str × Int) : (listOrd itemOrd).blt (rawKey x) (rawKey y) = ltN x y := by
  obtain ⟨x, n⟩ := x
  obtain ⟨y, m⟩ := y
  show (decide (x.cps.toList < y.cps.toList) || (!decide (y.cps.toList < x.cps.toList) && (decide (n < m) || (!decide (m < n) && false)))) = (if (Sum.inr x : Key) = Sum.inr y then (if (Sum.inl n : Key) = Sum.inl m then false else decide (n < m)) else decide (x.cps.toList < y.cps.toList))
  rw [Bool.and_false, Bool.or_false]
  by_cases e : x = y
  · subst e
    have irr : decide (x.cps.toList < x.cps.toList) = false := decide_eq_false (List.lt_irrefl _)
    rw [if_pos rfl, irr]
    by_cases k : n = m
    · subst k
      rw [if_pos rfl]
      simp
    · rw [if_neg (fun z => k (Sum.inl.inj z))]
      rfl
  · rw [if_neg (fun z => e (Sum.inr.inj z))]
    by_cases h : x.cps.toList < y.cps.toList
    · rw [decide_eq_true h]
      rfl
    · have h2 : y.cps.toList < x.cps.toList := by
        have h3 : y.cps.toList ≤ x.cps.toList := List.not_lt.mp h
        rcases Std.le_iff_lt_or_eq.mp h3 with z | z
        · exact z
        · exact absurd (str_ext z.symm) e
      rw [decide_eq_false h, decide_eq_true h2]
      rfl
theorem tups_of {h : Heap} {shape : Nat → Bool} : ∀ {vs : List Value}, (∀ v ∈ vs, ∃ f, TupOf h shape v f) → ∃ fs, TupsOf h shape vs fs
  | [], _ => ⟨[], .nil⟩
  | v :: vs, k => by
    obtain ⟨f, hf⟩ := k v List.mem_cons_self
    obtain ⟨fs, hfs⟩ := tups_of fun u hu => k u (List.mem_cons_of_mem _ hu)
    exact ⟨f :: fs, .cons hf hfs⟩
section
variable {prog : Program} {w : World} {A : Around} {E : Value → Shared → Prop} {s : Shared}
/-- the heap with a new list of these at its end -/
def collected (h : Heap) (items : Array Value) : Heap := (h.push { cls := .type "list", data := .seq ([] : List Value).toArray }).update h.objs.size (Obj.mapSeq (· ++ items))
/-- collect, of a list or tuple, with the heap behind it -/
theorem collect_exact {Q : List Value → Shared → Prop} (l : Addr) {T : String} {o : Obj} {items : Array Value} {n : Nat} (hT : T = "list" ∨ T = "tuple") (ho : s.heap.get? l = some o) (hc : o.cls = .type T) (hd : o.data = .seq items n)
    (q : Q items.toList { s with heap := collected s.heap items }) (hsz : items.size ≤ sizeLine) : wpAny (model prog w) A (collect (.ref l)) Q E s := by
  unfold collect
  refine wpAny_bind (wpAny_runValue (codeAny_builtin F.entry_proto_collect ?c0))
  case c0 =>
  rw [Around.under_plainId F.plain_proto_collect _]
  show wpAny _ A.in1 (newList [] >>= fun x => again (.builtin "list.__iadd__" ⟨[x, .ref l], []⟩)) _ _ s
  refine wpAny_bind (wpAny_newObj_type (wpAny_pure ⟨plainId_quiet F.plain_list_iadd _, codeAny_builtin F.entry_list_iadd ?c1⟩))
  case c1 =>
  rw [Around.under_plainId F.plain_list_iadd _]
  show wpAny _ A.in1 (Builtin.List.listExtendWith (.ref s.heap.objs.size) (.ref l) (.ref s.heap.objs.size)) _ _ _
  have at0 : (s.heap.push { cls := .type "list", data := .seq ([] : List Value).toArray }).get? s.heap.objs.size = some { cls := .type "list", data := .seq #[] 0 } := Heap.get?_push_size _ rfl
  have at1 := Heap.get?_update_self (Obj.mapSeq (· ++ items)) at0 rfl
  have last : wpAny (model prog w) A (match Value.ref s.heap.objs.size with
      | Value.ref a => do
        match (← load a).data with
          | Data.seq xs _ => pure xs.toList
          | _ => unsupported "internal:collect"
      | _ => unsupported "internal:collect") Q E { s with heap := collected s.heap items } := by
    show wpAny _ A (load s.heap.objs.size >>= _) _ _ _
    refine wpAny_bind (wpAny_load at1 (wpAny_pure ?c2))
    case c2 =>
    show Q ((#[] : Array Value) ++ items).toList _
    rw [show ((#[] : Array Value) ++ items).toList = items.toList by simp]
    exact q
  refine wpAny_mono (wpAny_extend_seq (hsz := hsz) (A := A) (R := fun r s' => r = .ok (.ret (.ref s.heap.objs.size)) ∧ s' = { s with heap := collected s.heap items }) (s := { s with heap := s.heap.push { cls := .type "list", data := .seq ([] : List Value).toArray } }) _ l _ 0 hT at0 (Heap.get?_push_of_some _ ho) hc hd ⟨rfl, rfl⟩) (fun fin s' h => ?c3) (fun e s' h => absurd h.1 (by simp))
  case c3 =>
  cases fin with
  | done f =>
    obtain ⟨e, rfl⟩ := h
    cases e
    exact last
  | again c' =>
    refine ⟨h.1, codeAny_mono h.2 fun r s'' hr => ?_⟩
    obtain ⟨rfl, rfl⟩ := hr
    exact last
theorem collected_old {h : Heap} {items : Array Value} {b : Addr} {o : Obj} (e : h.get? b = some o) : (collected h items).get? b = some o :=
  (Heap.get?_update_other _ _ (Nat.ne_of_gt (Heap.lt_size e))).trans (Heap.get?_push_of_some _ e)
theorem collected_size {h : Heap} {items : Array Value} : (collected h items).objs.size = h.objs.size + 1 := by
  unfold collected
  rw [Heap.size_update, size_push']
theorem sorted_tupsT {shape : Nat → Bool} {l : Addr} {o : Obj} {vs fs : List Value} {n : Nat} {Q : Value → Shared → Prop} (ho : s.heap.get? l = some o) (hc : o.cls = .type "tuple") (hd : o.data = .seq vs.toArray n)
    (ht : ∀ h2 : Heap, (∀ b o, s.heap.get? b = some o → h2.get? b = some o) → TupsOf h2 shape vs fs) (hk : ∀ h2 : Heap, (∀ b o, s.heap.get? b = some o → h2.get? b = some o) → ∀ v, v ∈ vs → ∃ x, G.tupKeyC h2 shape v = some x) (hL : vs.length ≤ sizeLine)
    (h : ∀ (h1 : Heap) (st' : SortSt), (∀ b o, s.heap.get? b = some o → h1.get? b = some o) → h1.objs.size = s.heap.objs.size + 2 → h1.get? (s.heap.objs.size + 1) = some (seqObj "list" vs.toArray 0) → (arrOf st').Perm (pairsOf vs) → SortedToK (G.tupKindC h1 shape) (arrOf st') (pairsOf vs).size →
      Q (.ref (s.heap.objs.size + 1)) { s with heap := sortedHeap h1 (s.heap.objs.size + 1) vs ((arrOf st').map (·.2)) }) : wpAny (model prog w) A (call (.builtin "sorted") [.ref l]) Q E s := by
  refine Calls.call_function_entry kind_sorted plain_sorted entry_sorted (args_sorted1 _) ?_
  unfold Builtin.«sorted»
  refine wpAny_bind (m := checkCount "sorted" 1 1 _) (wpAny_pure (wpAny_bind (collect_exact l (.inr rfl) ho hc hd (wpAny_bind (wpAny_newList ?g)) (by rw [List.size_toArray]; exact hL))))
  case g =>
  have k1 : ∀ b o, s.heap.get? b = some o → ((collected s.heap vs.toArray).push (seqObj "list" vs.toArray 0)).get? b = some o := fun b o e => Heap.get?_push_of_some _ (collected_old e)
  have hoL : ((collected s.heap vs.toArray).push (seqObj "list" vs.toArray 0)).get? (s.heap.objs.size + 1) = some (seqObj "list" vs.toArray 0) := by
    rw [← collected_size (items := vs.toArray)]
    exact Heap.get?_push_size _ rfl
  show wpAny _ _ _ _ _ { s with heap := (collected s.heap vs.toArray).push (seqObj "list" vs.toArray 0) }
  rw [collected_size]
  refine wpAny_bind (wpAny_holding (wpAny_call_entry slot_list_sort ⟨_, hoL, rfl⟩ entry_list_sort (G.list_sort_tups hoL (ht _ k1) (hk _ k1) hL fun st' a1 a2 a3 => ⟨_, rfl, ?r⟩) (args_list_sort _)))
  case r => exact wpAny_pure ⟨_, rfl, h _ st' k1 (by rw [size_push', collected_size]) hoL a1 a2⟩
end
section
variable {X : Cx}
def rSortedN (K : PySem.W.Frag) : List V → Hp → VK → Prop := fun vs H Q => ∃ (a : Addr) (us : List V) (kf : V → Str × Int), vs = [.ref a] ∧ SqL K H a us ∧ (∀ u ∈ us, NameAt K H u (kf u)) ∧
  ∀ us' p, us'.Perm us → us'.Pairwise (fun x y => ltN (kf y) (kf x) = false) → H p = none → Q (.ref p) (upd H p (.lst us'))
theorem cr_sortedN : CallR X (.builtin "sorted") (rSortedN X.K) := by
  intro pins s σ H vs ws Q I r h
  obtain ⟨a, us, kf, rfl, hs, hx, q⟩ := h
  obtain ⟨its, rv, hl, hz⟩ := I.list hs
  obtain ⟨u, rfl, ru⟩ := vals1 r
  cases (show u = Value.ref a from ru)
  obtain ⟨e1, e2⟩ := refs_back rv fun x m => (hx x m).imp fun t z => z.1
  have look : ∀ v ∈ its, ∃ t o t1 t2 n, v = .ref t ∧ s.heap.get? t = some o ∧ o.cls = .type "tuple" ∧ o.data = .seq #[.str (kf (backV v)).1 t1, .int (kf (backV v)).2 t2] n := by
    intro v hv
    obtain ⟨t, rfl⟩ := e2 v hv
    obtain ⟨b, eb, hb⟩ := hx (.ref t) (by rw [e1]; exact List.mem_map.mpr ⟨_, hv, rfl⟩)
    cases eb
    obtain ⟨its2, r2, ⟨o, ho, hc, n, hd⟩, _⟩ := I.tuple hb
    obtain ⟨u1, u2, rfl, ⟨t1, rfl⟩, ⟨t2, rfl⟩⟩ := vals2 r2
    exact ⟨t, o, t1, t2, n, rfl, ho, hc, hd⟩
  let shape : Nat → Bool := fun i => decide (i = 0)
  obtain ⟨fs, ht⟩ : ∃ fs, TupsOf s.heap shape its fs := tups_of fun v hv => by
    obtain ⟨t, o, t1, t2, n, rfl, ho, hc, hd⟩ := look v hv
    exact ⟨_, t, o, _, n, rfl, ho, hc, hd, rfl, fun z => (by cases z), fun _ => ⟨_, _, rfl⟩⟩
  have key : ∀ v ∈ its, G.tupKeyC s.heap shape v = some (rawKey (kf (backV v))) := fun v hv => by
    obtain ⟨t, o, t1, t2, n, rfl, ho, hc, hd⟩ := look v hv
    unfold G.tupKeyC
    have it : G.isTupObj s.heap (.ref t) = true := by
      unfold G.isTupObj
      simp [ho, hc]
    rw [if_pos it]
    unfold tupKey
    simp only [ho, hd]
    rfl
  refine G.sorted_tups hl.isList ht (fun v hv => ⟨_, key v hv⟩) (by rw [← rv.length]; exact hz) fun st' hp hso _ => ?_
  have zz : (pairsOf its).toList = its.zip its := pairsOf_toList its
  have hpl : (arrOf st').toList.Perm (its.zip its) := by rw [← zz]; exact hp.toList
  have own : ∀ p ∈ (arrOf st').toList, p.1 = p.2 ∧ p.1 ∈ its := fun p hm => mem_zip_self (hpl.mem_iff.mp hm)
  have sz : (arrOf st').size = its.length := by
    have := hpl.length_eq
    rw [Array.length_toList, List.length_zip] at this
    omega
  have outp : ((arrOf st').toList.map (·.2)).Perm its := by
    have z := hpl.map (·.2)
    rw [List.map_snd_zip (Nat.le_refl _)] at z
    exact z
  have oute : ((arrOf st').map (·.2)).toList = (arrOf st').toList.map (·.2) := Array.toList_map
  have h3 : ∀ u ∈ (arrOf st').toList.map (·.2), ∃ a, u = Value.ref a := fun u hu => e2 u (outp.mem_iff.mp hu)
  obtain ⟨e, hn⟩ := sortedAll_at s.heap its ((arrOf st').map (·.2))
  have fresh : s.heap.objs.size ≤ s.heap.objs.size + 1 := Nat.le_succ _
  have lenO : ((arrOf st').toList.map (·.2)).length = us.length := by rw [outp.length_eq, ← rv.length]
  refine ⟨.ref (s.heap.objs.size + 1), upd H (s.heap.objs.size + 1) (.lst (((arrOf st').toList.map (·.2)).map backV)), I.laid (t' := s.toks) (fun b o z => sortedAll_old z) fresh ⟨?_, (arrOf st').toList.map (·.2), e, vals_back h3, ?_⟩, rfl, q _ _ ?_ ?_ (I.hok.fresh fresh)⟩
  · rw [List.length_map, lenO]
    exact hz
  · rw [hn, ← oute, Array.toArray_toList]
  · rw [e1]
    exact outp.map backV
  · rw [List.pairwise_iff_getElem]
    intro i j hi hj hij
    have hi' : i < (arrOf st').size := by
      rw [List.length_map, List.length_map, Array.length_toList] at hi
      exact hi
    have hj' : j < (arrOf st').size := by
      rw [List.length_map, List.length_map, Array.length_toList] at hj
      exact hj
    have kk : ∀ n (hn : n < (arrOf st').size), KK (G.tupKindC s.heap shape) (arrOf st') n = rawKey (kf (backV ((arrOf st')[n]).2)) := fun n hn => by
      have m : (arrOf st')[n] ∈ (arrOf st').toList := by
        rw [← Array.getElem_toList]
        exact List.getElem_mem _
      obtain ⟨o1, o2⟩ := own _ m
      unfold KK
      rw [Array.getElem?_eq_getElem hn]
      show (G.tupKeyC s.heap shape ((arrOf st')[n]).1).getD [] = _
      rw [key _ o2, ← o1]
      rfl
    have z := hso i j (Nat.le_of_lt hij) (by
      have : (pairsOf its).size = its.length := by rw [← Array.length_toList, zz, List.length_zip]; omega
      omega)
    rw [kk i hi', kk j hj'] at z
    have z' : (listOrd itemOrd).blt (rawKey (kf (backV ((arrOf st')[j]).2))) (rawKey (kf (backV ((arrOf st')[i]).2))) = false := z
    rw [raw_lt] at z'
    simp only [List.getElem_map, Array.getElem_toList]
    exact z'
theorem tups_ofA {P : Heap → Prop} {shape : Nat → Bool} : ∀ {vs : List Value}, (∀ v ∈ vs, ∃ f, ∀ h, P h → TupOf h shape v f) → ∃ fs, ∀ h, P h → TupsOf h shape vs fs
  | [], _ => ⟨[], fun _ _ => .nil⟩
  | v :: vs, k => by
    obtain ⟨f, hf⟩ := k v List.mem_cons_self
    obtain ⟨fs, hfs⟩ := tups_ofA fun u hu => k u (List.mem_cons_of_mem _ hu)
    exact ⟨f :: fs, fun h p => .cons (hf h p) (hfs h p)⟩
def rSortedTN (K : PySem.W.Frag) : List V → Hp → VK → Prop := fun vs H Q => ∃ (a : Addr) (us : List V) (kf : V → Str × Int), vs = [.ref a] ∧ SqT K H a us ∧ (∀ u ∈ us, NameAt K H u (kf u)) ∧
  ∀ us' p, us'.Perm us → us'.Pairwise (fun x y => ltN (kf y) (kf x) = false) → H p = none → Q (.ref p) (upd H p (.lst us'))
theorem cr_sortedTN : CallR X (.builtin "sorted") (rSortedTN X.K) := by
  intro pins s σ H vs ws Q I r h
  obtain ⟨a, us, kf, rfl, hs, hx, q⟩ := h
  obtain ⟨its, rv, ⟨o0, ho0, hc0, n0, hd0⟩, hz⟩ := I.tuple hs
  obtain ⟨u, rfl, ru⟩ := vals1 r
  cases (show u = Value.ref a from ru)
  obtain ⟨e1, e2⟩ := refs_back rv fun x m => (hx x m).imp fun t z => z.1
  have look : ∀ v ∈ its, ∃ t o t1 t2 n, v = .ref t ∧ s.heap.get? t = some o ∧ o.cls = .type "tuple" ∧ o.data = .seq #[.str (kf (backV v)).1 t1, .int (kf (backV v)).2 t2] n := by
    intro v hv
    obtain ⟨t, rfl⟩ := e2 v hv
    obtain ⟨b, eb, hb⟩ := hx (.ref t) (by rw [e1]; exact List.mem_map.mpr ⟨_, hv, rfl⟩)
    cases eb
    obtain ⟨its2, r2, ⟨o, ho, hc, n, hd⟩, _⟩ := I.tuple hb
    obtain ⟨u1, u2, rfl, ⟨t1, rfl⟩, ⟨t2, rfl⟩⟩ := vals2 r2
    exact ⟨t, o, t1, t2, n, rfl, ho, hc, hd⟩
  let shape : Nat → Bool := fun i => decide (i = 0)
  have look2 : ∀ h2 : Heap, (∀ b o, s.heap.get? b = some o → h2.get? b = some o) → ∀ v ∈ its, ∃ t o t1 t2 n, v = .ref t ∧ h2.get? t = some o ∧ o.cls = .type "tuple" ∧ o.data = .seq #[.str (kf (backV v)).1 t1, .int (kf (backV v)).2 t2] n := fun h2 k v hv => by
    obtain ⟨t, o, t1, t2, n, e, ho, hc, hd⟩ := look v hv
    exact ⟨t, o, t1, t2, n, e, k _ _ ho, hc, hd⟩
  have form : ∃ fs, ∀ h2 : Heap, (∀ b o, s.heap.get? b = some o → h2.get? b = some o) → TupsOf h2 shape its fs := by
    have one : ∀ v ∈ its, ∃ f, ∀ h2 : Heap, (∀ b o, s.heap.get? b = some o → h2.get? b = some o) → TupOf h2 shape v f := fun v hv => by
      obtain ⟨t, o, t1, t2, n, rfl, ho, hc, hd⟩ := look v hv
      exact ⟨_, fun h2 k => ⟨t, o, _, n, rfl, k _ _ ho, hc, hd, rfl, fun z => (by cases z), fun _ => ⟨_, _, rfl⟩⟩⟩
    exact tups_ofA one
  obtain ⟨fs, ht⟩ := form
  have key : ∀ h2 : Heap, (∀ b o, s.heap.get? b = some o → h2.get? b = some o) → ∀ v ∈ its, G.tupKeyC h2 shape v = some (rawKey (kf (backV v))) := fun h2 k v hv => by
    obtain ⟨t, o, t1, t2, n, rfl, ho, hc, hd⟩ := look2 h2 k v hv
    unfold G.tupKeyC
    have it : G.isTupObj h2 (.ref t) = true := by
      unfold G.isTupObj
      simp [ho, hc]
    rw [if_pos it]
    unfold tupKey
    simp only [ho, hd]
    rfl
  refine sorted_tupsT ho0 hc0 hd0 ht (fun h2 k v hv => ⟨_, key h2 k v hv⟩) (by rw [← rv.length]; exact hz) fun h1 st' k1 z1 l1 hp hso => ?_
  have zz : (pairsOf its).toList = its.zip its := pairsOf_toList its
  have hpl : (arrOf st').toList.Perm (its.zip its) := by rw [← zz]; exact hp.toList
  have own : ∀ p ∈ (arrOf st').toList, p.1 = p.2 ∧ p.1 ∈ its := fun p hm => mem_zip_self (hpl.mem_iff.mp hm)
  have sz : (arrOf st').size = its.length := by
    have := hpl.length_eq
    rw [Array.length_toList, List.length_zip] at this
    omega
  have outp : ((arrOf st').toList.map (·.2)).Perm its := by
    have z := hpl.map (·.2)
    rw [List.map_snd_zip (Nat.le_refl _)] at z
    exact z
  have oute : ((arrOf st').map (·.2)).toList = (arrOf st').toList.map (·.2) := Array.toList_map
  have h3 : ∀ u ∈ (arrOf st').toList.map (·.2), ∃ a, u = Value.ref a := fun u hu => e2 u (outp.mem_iff.mp hu)
  obtain ⟨e, hn⟩ := sortedHeap_at (vs := its) (out := (arrOf st').map (·.2)) l1
  have fresh : s.heap.objs.size ≤ s.heap.objs.size + 1 := Nat.le_succ _
  have lenO : ((arrOf st').toList.map (·.2)).length = us.length := by rw [outp.length_eq, ← rv.length]
  refine ⟨.ref (s.heap.objs.size + 1), upd H (s.heap.objs.size + 1) (.lst (((arrOf st').toList.map (·.2)).map backV)), I.laid (t' := s.toks) (fun b o z => (sortedHeap_old (Nat.ne_of_lt (Nat.lt_succ_of_lt (Heap.lt_size z))) (Heap.lt_size (k1 _ _ z))).trans (k1 _ _ z)) fresh ⟨?_, (arrOf st').toList.map (·.2), e, vals_back h3, ?_⟩, rfl, q _ _ ?_ ?_ (I.hok.fresh fresh)⟩
  · rw [List.length_map, lenO]
    exact hz
  · rw [hn, ← oute, Array.toArray_toList]
  · rw [e1]
    exact outp.map backV
  · rw [List.pairwise_iff_getElem]
    intro i j hi hj hij
    have hi' : i < (arrOf st').size := by
      rw [List.length_map, List.length_map, Array.length_toList] at hi
      exact hi
    have hj' : j < (arrOf st').size := by
      rw [List.length_map, List.length_map, Array.length_toList] at hj
      exact hj
    have kk : ∀ n (hn : n < (arrOf st').size), KK (G.tupKindC h1 shape) (arrOf st') n = rawKey (kf (backV ((arrOf st')[n]).2)) := fun n hn => by
      have m : (arrOf st')[n] ∈ (arrOf st').toList := by
        rw [← Array.getElem_toList]
        exact List.getElem_mem _
      obtain ⟨o1, o2⟩ := own _ m
      unfold KK
      rw [Array.getElem?_eq_getElem hn]
      show (G.tupKeyC h1 shape ((arrOf st')[n]).1).getD [] = _
      rw [key h1 k1 _ o2, ← o1]
      rfl
    have z := hso i j (Nat.le_of_lt hij) (by
      have : (pairsOf its).size = its.length := by rw [← Array.length_toList, zz, List.length_zip]; omega
      omega)
    rw [kk i hi', kk j hj'] at z
    have z' : (listOrd itemOrd).blt (rawKey (kf (backV ((arrOf st')[j]).2))) (rawKey (kf (backV ((arrOf st')[i]).2))) = false := z
    rw [raw_lt] at z'
    simp only [List.getElem_map, Array.getElem_toList]
    exact z'
/-- the same, by pairs -/
def rSortedTP (K : PySem.W.Frag) : List V → Hp → VK → Prop := fun vs H Q => ∃ (a : Addr) (us : List V) (ns : List (Str × Int)), vs = [.ref a] ∧ SqT K H a us ∧ Paired (NameAt K H) us ns ∧
  ∀ us' ns' p, Paired (NameAt K H) us' ns' → ns'.Perm ns → ns'.Pairwise (fun x y => ltN y x = false) → H p = none → Q (.ref p) (upd H p (.lst us'))
open Classical in
noncomputable def nameOf (K : PySem.W.Frag) (H : Hp) (v : V) : Str × Int := if h : ∃ n, NameAt K H v n then choose h else ("", 0)
theorem nameOf_at {K : PySem.W.Frag} {H : Hp} {v : V} {n : Str × Int} (h : NameAt K H v n) : NameAt K H v (nameOf K H v) := by
  unfold nameOf
  rw [dif_pos ⟨n, h⟩]
  exact Classical.choose_spec (⟨n, h⟩ : ∃ n, NameAt K H v n)
theorem cr_sortedTP : CallR X (.builtin "sorted") (rSortedTP X.K) := by
  intro pins s σ H vs ws Q I r h
  obtain ⟨a, us, ns, rfl, hs, hP, q⟩ := h
  have one : ∀ {v : V} {n : Str × Int}, NameAt X.K H v n → nameOf X.K H v = n := fun {v n} h => by
    obtain ⟨b, rfl, h1⟩ := h
    obtain ⟨b', e, h2⟩ := nameOf_at (⟨b, rfl, h1⟩ : NameAt X.K H (.ref b) n)
    cases e
    have z := I.tuple_inj h2 h1
    generalize nameOf X.K H (.ref b) = m at z
    obtain ⟨m1, m2⟩ := m
    obtain ⟨n1, n2⟩ := n
    have z' : [V.str m1, V.int m2] = [V.str n1, V.int n2] := z
    simp only [List.cons.injEq, V.str.injEq, V.int.injEq, and_true] at z'
    rw [z'.1, z'.2]
  have mp : ∀ {us : List V} {ns : List (Str × Int)}, Paired (NameAt X.K H) us ns → us.map (nameOf X.K H) = ns := by
    intro us ns h
    induction h with
    | nil => rfl
    | cons a _ ih => rw [List.map_cons, one a, ih]
  have back : ∀ {us : List V}, (∀ u ∈ us, NameAt X.K H u (nameOf X.K H u)) → Paired (NameAt X.K H) us (us.map (nameOf X.K H)) := by
    intro us
    induction us with
    | nil => exact fun _ => .nil
    | cons u us ih => exact fun h => .cons (h u List.mem_cons_self) (ih fun x hx => h x (List.mem_cons_of_mem _ hx))
  have all : ∀ {us : List V} {ns : List (Str × Int)}, Paired (NameAt X.K H) us ns → ∀ u ∈ us, NameAt X.K H u (nameOf X.K H u) := by
    intro us ns h
    induction h with
    | nil => exact fun _ z => nomatch z
    | cons a _ ih =>
      intro u hu
      rcases List.mem_cons.mp hu with rfl | hu
      · exact nameOf_at a
      · exact ih u hu
  refine cr_sortedTN pins s σ H [.ref a] ws Q I r ⟨a, us, nameOf X.K H, rfl, hs, all hP, fun us' p hp ho np => ?_⟩
  refine q us' (us'.map (nameOf X.K H)) p (back fun u hu => all hP u (hp.mem_iff.mp hu)) ?_ (List.pairwise_map.mpr ho) np
  rw [← mp hP]
  exact hp.map _
end
end Br

set_option Elab.async false
set_option linter.all false
set_option maxRecDepth 100000
set_option maxHeartbeats 4000000
/-! The data layer: defs over plain data. A state of a def is a list of cells (by slot): unset, data that is never changed
any more (fro), or a list or dict of its own that it may change (own). G is the part of the heap that no one changes. -/
namespace Dl
open PySem PySem.Spec PyProof.Rows L2
/-- a tuple: made and a key, perhaps, of a dict; of the module, or any; made and known as it lies (what dict() asks) -/
inductive Tk where
  | mad | wri | frz
  deriving DecidableEq
inductive D where
  | none
  | bool (b : Bool)
  | int (i : Int)
  | str (s : Str)
  | list (xs : List D)
  | tuple (c : Tk) (xs : List D)
  | dict (kvs : List (D × D))
  /-- the script -/
  | scr (ns : List Int)
  /-- a def of the module, by its name -/
  | fn (x : Str)
  /-- an exception of the class named x, made by us, its fields by their names -/
  | exc (x : Str) (fs : List Str) (ds : List D)
mutual
def toPy : D → PyData
  | .none => .none
  | .bool b => .bool b
  | .int i => .int i
  | .str s => .str s
  | .list xs => .list (toPys xs)
  | .tuple _ xs => .tuple (toPys xs)
  | .dict kvs => .dict (toPyKs kvs)
  | .scr _ => .dict []
  | .fn _ => .dict []
  | .exc _ _ _ => .dict []
def toPys : List D → List PyData
  | [] => []
  | d :: ds => toPy d :: toPys ds
def toPyKs : List (D × D) → List (PyData × PyData)
  | [] => []
  | (a, b) :: r => (toPy a, toPy b) :: toPyKs r
end
def keyD : Key → D
  | .inl i => .int i
  | .inr x => .str x
mutual
inductive Rp (K : PySem.W.Frag) (G : Hp) : V → D → Prop
  | non : Rp K G .non .none
  | bl (b : Bool) : Rp K G (.bl b) (.bool b)
  | int (i : Int) : Rp K G (.int i) (.int i)
  | str (x : Str) : Rp K G (.str x) (.str x)
  | lst {a : Addr} {xs : List V} {ds : List D} : Rd G a (.lst xs) → RpAll K G xs ds → Rp K G (.ref a) (.list ds)
  | tup {a : Addr} {xs : List V} {ds : List D} : G a = some (.tup xs) → RpAll K G xs ds → Rp K G (.ref a) (.tuple .mad ds)
  | tupC {a : Addr} {xs : List V} {ds : List D} : SqT K G a xs → RpAll K G xs ds → Rp K G (.ref a) (.tuple .wri ds)
  | tupZ {a : Addr} {o : Obj} {xs : List V} {ds : List D} : G a = some (.frz o (.tup xs)) → o.dict = none → RpAll K G xs ds → Rp K G (.ref a) (.tuple .frz ds)
  | scr {a : Addr} {ns : List Int} : SqL K G a (ns.map V.int) → Rp K G (.ref a) (.scr ns)
  | fn {x : Str} {f : Addr} : PySem.W.nsIn K mainGlobals x = some (some (.ref f)) → Rp K G (.ref f) (.fn x)
  | exn {x : Str} {a C : Addr} : PySem.W.nsIn K mainGlobals x = some (some (.ref C)) → G a = some (exo a C none) → Rp K G (.ref a) (.exc x [] [])
  | exf {x : Str} {a C d : Addr} {fs : List Str} {vs : List V} {ds : List D} : PySem.W.nsIn K mainGlobals x = some (some (.ref C)) → G a = some (exo a C (some d)) → G d = some (exd d (fs.zip vs)) → fs.length = vs.length → RpAll K G vs ds → Rp K G (.ref a) (.exc x fs ds)
  | dK {a : Addr} {ks : List Key} {xs : List V} {ds : List D} : Rd G a (.dK (ks.zip xs)) → ks.length = xs.length → RpAll K G xs ds → Rp K G (.ref a) (.dict ((ks.map keyD).zip ds))
  | dT {a : Addr} {ks : List (List Key)} {xs : List V} {ds : List D} : Rd G a (.dT (ks.zip xs)) → ks.length = xs.length → RpAll K G xs ds → Rp K G (.ref a) (.dict ((ks.map fun k => .tuple .mad (k.map keyD)).zip ds))
inductive RpAll (K : PySem.W.Frag) (G : Hp) : List V → List D → Prop
  | nil : RpAll K G [] []
  | cons {v : V} {vs : List V} {d : D} {ds : List D} : Rp K G v d → RpAll K G vs ds → RpAll K G (v :: vs) (d :: ds)
end
theorem rd_same {G G' : Hp} {a : Addr} {u : HO} (e : Same G G') (h : Rd G a u) : Rd G' a u := h.imp (e _ _) fun ⟨o, q⟩ => ⟨o, e _ _ q⟩
theorem sqT_same {K : PySem.W.Frag} {H H' : Hp} {a : Addr} {xs : List V} (e : Same H H') (h : SqT K H a xs) : SqT K H' a xs := h.imp (rd_same e) id
mutual
theorem rp_same {K : PySem.W.Frag} {G G' : Hp} (e : Same G G') : ∀ {v : V} {d : D}, Rp K G v d → Rp K G' v d
  | _, _, .non => .non
  | _, _, .bl b => .bl b
  | _, _, .int i => .int i
  | _, _, .str x => .str x
  | _, _, .lst s a => .lst (rd_same e s) (rps_same e a)
  | _, _, .tup s a => .tup (e _ _ s) (rps_same e a)
  | _, _, .tupC s a => .tupC (sqT_same e s) (rps_same e a)
  | _, _, .tupZ s n a => .tupZ (e _ _ s) n (rps_same e a)
  | _, _, .scr s => .scr (e.seq s)
  | _, _, .fn e => .fn e
  | _, _, .exn c s => .exn c (e _ _ s)
  | _, _, .exf c s t l a => .exf c (e _ _ s) (e _ _ t) l (rps_same e a)
  | _, _, .dK s l a => .dK (rd_same e s) l (rps_same e a)
  | _, _, .dT s l a => .dT (rd_same e s) l (rps_same e a)
theorem rps_same {K : PySem.W.Frag} {G G' : Hp} (e : Same G G') : ∀ {vs : List V} {ds : List D}, RpAll K G vs ds → RpAll K G' vs ds
  | _, _, .nil => .nil
  | _, _, .cons x r => .cons (rp_same e x) (rps_same e r)
end
theorem rp_tup {K : PySem.W.Frag} {G : Hp} {v : V} {c : Tk} {ds : List D} (h : Rp K G v (.tuple c ds)) : ∃ a xs, v = .ref a ∧ SqT K G a xs ∧ RpAll K G xs ds ∧ (c = .mad → G a = some (.tup xs)) := by
  cases h with
  | tup s a => exact ⟨_, _, rfl, SqT.of s, a, fun _ => s⟩
  | tupC s a => exact ⟨_, _, rfl, s, a, fun z => nomatch z⟩
  | tupZ s n a => exact ⟨_, _, rfl, .inl (.inr ⟨_, s⟩), a, fun z => nomatch z⟩
theorem rp_weak {K : PySem.W.Frag} {G : Hp} {v : V} {c : Tk} {ds : List D} (h : Rp K G v (.tuple c ds)) : Rp K G v (.tuple .wri ds) := by
  obtain ⟨a, xs, rfl, s, r, _⟩ := rp_tup h
  exact .tupC s r
theorem rps_len {K : PySem.W.Frag} {G : Hp} : ∀ {xs : List V} {ds : List D}, RpAll K G xs ds → xs.length = ds.length
  | _, _, .nil => rfl
  | _, _, .cons _ r => congrArg (· + 1) (rps_len r)
/-- what an object holds, its parts in G -/
inductive ObR (K : PySem.W.Frag) (G : Hp) : HO → D → Prop
  | lst {xs : List V} {ds : List D} : RpAll K G xs ds → ObR K G (.lst xs) (.list ds)
  | dK {ks : List Key} {xs : List V} {ds : List D} : ks.length = xs.length → RpAll K G xs ds → ObR K G (.dK (ks.zip xs)) (.dict ((ks.map keyD).zip ds))
  | dT {ks : List (List Key)} {xs : List V} {ds : List D} : ks.length = xs.length → RpAll K G xs ds → ObR K G (.dT (ks.zip xs)) (.dict ((ks.map fun k => .tuple .mad (k.map keyD)).zip ds))
theorem ob_same {K : PySem.W.Frag} {G G' : Hp} (e : Same G G') {o : HO} {d : D} (h : ObR K G o d) : ObR K G' o d := by
  cases h with
  | lst a => exact .lst (rps_same e a)
  | dK l a => exact .dK l (rps_same e a)
  | dT l a => exact .dT l (rps_same e a)
theorem ob_rp {K : PySem.W.Frag} {G : Hp} {a : Addr} {o : HO} {d : D} (h : ObR K G o d) (e : G a = some o) : Rp K G (.ref a) d := by
  cases h with
  | lst r => exact .lst (.inl e) r
  | dK l r => exact .dK (.inl e) l r
  | dT l r => exact .dT (.inl e) l r
def isTup : HO → Bool
  | .tup _ => true
  | _ => false
theorem ob_tup {K : PySem.W.Frag} {G : Hp} {o : HO} {d : D} (h : ObR K G o d) : isTup o = false := by cases h <;> rfl
/-- a value that is read: data, or an object that somebody owns -/
inductive Vw (K : PySem.W.Frag) (G H : Hp) : V → D → Prop
  | fro {v : V} {d : D} : Rp K G v d → Vw K G H v d
  | own {a : Addr} {o : HO} {d : D} : H a = some o → ObR K G o d → Vw K G H (.ref a) d
/-! ### states -/
inductive Cell where
  | un
  | fro (d : D)
  | own (d : D)
abbrev Cs := List Cell
/-- the addresses that are owned -/
def Ow (σ : L2.St) (ρ : Cs) (p : Addr) : Prop := ∃ (i : Nat) (d : D), ρ[i]? = some (Cell.own d) ∧ σ[i]? = some (some (V.ref p))
structure Rel (K : PySem.W.Frag) (σ : L2.St) (G H : Hp) (ρ : Cs) : Prop where
  gh : Same G H
  len : σ.length = ρ.length
  fro : ∀ (i : Nat) (d : D), ρ[i]? = some (Cell.fro d) → ∃ v, σ[i]? = some (some v) ∧ Rp K G v d
  own : ∀ (i : Nat) (d : D), ρ[i]? = some (Cell.own d) → ∃ p o, σ[i]? = some (some (V.ref p)) ∧ H p = some o ∧ G p = none ∧ ObR K G o d
  apart : ∀ (i j : Nat) (p : Addr) (d e : D), ρ[i]? = some (Cell.own d) → ρ[j]? = some (Cell.own e) → σ[i]? = some (some (V.ref p)) → σ[j]? = some (some (V.ref p)) → i = j
/-- a step of the heap: G grows, what is not owned stays -/
structure Stp (M : Addr → Prop) (G H G' H' : Hp) : Prop where
  gg : Same G G'
  hh : ∀ a o, ¬ M a → H a = some o → H' a = some o
  fr : ∀ a o, ¬ M a → H a = some o → G a = none → isTup o = false → G' a = none
  dom : ∀ a, H' a = none → H a = none
theorem Stp.refl {M : Addr → Prop} {G H : Hp} : Stp M G H G H := ⟨Same.refl G, fun _ _ _ h => h, fun _ _ _ _ h _ => h, fun _ h => h⟩
theorem Stp.weak {M N : Addr → Prop} {G H G' H' : Hp} (s : Stp M G H G' H') (h : ∀ a, M a → N a) : Stp N G H G' H' := ⟨s.gg, fun a o n e => s.hh a o (fun m => n (h a m)) e, fun a o n => s.fr a o fun m => n (h a m), s.dom⟩
theorem Stp.trans {M : Addr → Prop} {G H G1 H1 G2 H2 : Hp} (s : Stp M G H G1 H1) (t : Stp M G1 H1 G2 H2) : Stp M G H G2 H2 :=
  ⟨s.gg.trans t.gg, fun a o n e => t.hh a o n (s.hh a o n e), fun a o n e g i => t.fr a o n (s.hh a o n e) (s.fr a o n e g i) i, fun a e => s.dom a (t.dom a e)⟩
/-- what a step of a def keeps: slots below n, the heap but for what it owns -/
structure Lk (n : Nat) (σ : L2.St) (G H : Hp) (ρ : Cs) (σ' : L2.St) (G' H' : Hp) (ρ' : Cs) : Prop where
  st : Stp (Ow σ ρ) G H G' H'
  sb : ∀ p, Ow σ' ρ' p → Ow σ ρ p ∨ H p = none
  pn : ∀ i, i < n → σ'[i]? = σ[i]?
theorem Lk.refl {n : Nat} {σ : L2.St} {G H : Hp} {ρ : Cs} : Lk n σ G H ρ σ G H ρ := ⟨.refl, fun _ h => .inl h, fun _ _ => rfl⟩
theorem Lk.trans {n : Nat} {σ σ1 σ2 : L2.St} {G H G1 H1 G2 H2 : Hp} {ρ ρ1 ρ2 : Cs} (a : Lk n σ G H ρ σ1 G1 H1 ρ1) (b : Lk n σ1 G1 H1 ρ1 σ2 G2 H2 ρ2) : Lk n σ G H ρ σ2 G2 H2 ρ2 := by
  have nm : ∀ p o, ¬ Ow σ ρ p → H p = some o → ¬ Ow σ1 ρ1 p := fun p o n e w => by
    rcases a.sb p w with z | z
    · exact n z
    · rw [e] at z; cases z
  refine ⟨⟨a.st.gg.trans b.st.gg, fun p o n e => b.st.hh p o (nm p o n e) (a.st.hh p o n e), fun p o n e g t => b.st.fr p o (nm p o n e) (a.st.hh p o n e) (a.st.fr p o n e g t) t, fun p e => a.st.dom p (b.st.dom p e)⟩, fun p w => ?_, fun i h => (b.pn i h).trans (a.pn i h)⟩
  rcases b.sb p w with z | z
  · exact a.sb p z
  · exact .inr (a.st.dom p z)
/-- nothing of the def's own is touched -/
def Pure : Addr → Prop := fun _ => False
/-- a step that touches nothing keeps the state -/
theorem Rel.pure {K : PySem.W.Frag} {σ : L2.St} {G H G' H' : Hp} {ρ : Cs} (R : Rel K σ G H ρ) (s : Stp Pure G H G' H') (gh : Same G' H') : Rel K σ G' H' ρ := by
  refine ⟨gh, R.len, fun i d e => ?_, fun i d e => ?_, R.apart⟩
  · obtain ⟨v, h, r⟩ := R.fro i d e
    exact ⟨v, h, rp_same s.gg r⟩
  · obtain ⟨p, o, h, hp, gp, r⟩ := R.own i d e
    exact ⟨p, o, h, s.hh p o (fun z => z) hp, s.fr p o (fun z => z) hp gp (ob_tup r), ob_same s.gg r⟩
theorem Lk.pure {n : Nat} {σ : L2.St} {G H G' H' : Hp} {ρ : Cs} (s : Stp Pure G H G' H') : Lk n σ G H ρ σ G' H' ρ := ⟨s.weak fun _ => False.elim, fun _ h => .inl h, fun _ _ => rfl⟩
/-- owned: not new -/
theorem Rel.old {K : PySem.W.Frag} {σ : L2.St} {G H : Hp} {ρ : Cs} (R : Rel K σ G H ρ) {p : Addr} (w : Ow σ ρ p) : H p ≠ none := fun z => by
  obtain ⟨i, d, h1, h2⟩ := w
  obtain ⟨p', o, h3, h4, _⟩ := R.own i d h1
  rw [h2] at h3
  cases h3
  rw [z] at h4
  cases h4
/-! ### what is told of data -/
abbrev ME := Cs → (D → Cs → Prop) → Prop
abbrev MT := Cs → (Bool → Cs → Prop) → Prop
abbrev MA := Cs → (List D → Cs → Prop) → Prop
/-- what is wanted behind a statement -/
structure Dn where
  nx : Cs → Prop
  rt : D → Cs → Prop
  bk : Cs → Prop := fun _ => False
  ct : Cs → Prop := fun _ => False
abbrev MS := Dn → Cs → Prop
/-- a flavour: of the heap ahead, the slots, the cells, G and H behind, the value, its data -/
abbrev Fl := Hp → L2.St → Cs → Hp → Hp → V → D → Prop
def fE (K : PySem.W.Frag) : Fl := fun _ _ _ G _ v d => Rp K G v d
def fV (K : PySem.W.Frag) : Fl := fun _ _ _ G H v d => Vw K G H v d
def fF (K : PySem.W.Frag) : Fl := fun H0 σ ρ G H v d => ∃ p o, v = .ref p ∧ H0 p = none ∧ ¬ Ow σ ρ p ∧ H p = some o ∧ G p = none ∧ ObR K G o d
/-- the readings by data -/
def tE (K : PySem.W.Frag) (φ : Fl) (m : ME) : TE := fun σ H Q => ∃ G ρ, Rel K σ G H ρ ∧ m ρ fun d ρ' => ∀ v G' H', Rel K σ G' H' ρ' → Lk 0 σ G H ρ σ G' H' ρ' → φ H σ ρ' G' H' v d → Q v H'
def tT (K : PySem.W.Frag) (m : MT) : TT := fun σ H Q => ∃ G ρ, Rel K σ G H ρ ∧ m ρ fun b ρ' => ∀ G' H', Rel K σ G' H' ρ' → Lk 0 σ G H ρ σ G' H' ρ' → Q b H'
def tA (K : PySem.W.Frag) (m : MA) : TA := fun σ H Q => ∃ G ρ, Rel K σ G H ρ ∧ m ρ fun ds ρ' => ∀ vs G' H', Rel K σ G' H' ρ' → Lk 0 σ G H ρ σ G' H' ρ' → RpAll K G' vs ds → Q vs H'
def tS (K : PySem.W.Frag) (n : Nat) (m : MS) : TS := fun T σ H => ∃ G ρ E, Rel K σ G H ρ ∧ m E ρ ∧
  (∀ σ' G' H' ρ', Rel K σ' G' H' ρ' → Lk n σ G H ρ σ' G' H' ρ' → E.nx ρ' → T.nx σ' H') ∧
  (∀ v d σ' G' H' ρ', Rel K σ' G' H' ρ' → Lk n σ G H ρ σ' G' H' ρ' → Rp K G' v d → E.rt d ρ' → T.rt v H') ∧
  (∀ σ' G' H' ρ', Rel K σ' G' H' ρ' → Lk n σ G H ρ σ' G' H' ρ' → E.bk ρ' → T.bk σ' H') ∧
  (∀ σ' G' H' ρ', Rel K σ' G' H' ρ' → Lk n σ G H ρ σ' G' H' ρ' → E.ct ρ' → T.ct σ' H')
def Mo {α : Type} (m : Cs → (α → Cs → Prop) → Prop) : Prop := ∀ (ρ : Cs) (k k' : α → Cs → Prop), (∀ d ρ', k d ρ' → k' d ρ') → m ρ k → m ρ k'
def MoS (m : MS) : Prop := ∀ (ρ : Cs) (E E' : Dn), (∀ ρ', E.nx ρ' → E'.nx ρ') → (∀ d ρ', E.rt d ρ' → E'.rt d ρ') → (∀ ρ', E.bk ρ' → E'.bk ρ') → (∀ ρ', E.ct ρ' → E'.ct ρ') → m E ρ → m E' ρ
structure SE (K : PySem.W.Frag) (φ : Fl) (X : Cx) (e : Expr) (m : ME) : Prop where
  mono : Mo m
  pe : PE X e (tE K φ m)
structure ST (K : PySem.W.Frag) (X : Cx) (e : Expr) (m : MT) : Prop where
  mono : Mo m
  pt : PT X e (tT K m)
structure SA (K : PySem.W.Frag) (X : Cx) (es : List Expr) (m : MA) : Prop where
  mono : Mo m
  pa : PA X es (tA K m)
structure SS (K : PySem.W.Frag) (n : Nat) (X : Cx) (st : Stmt) (m : MS) : Prop where
  mono : MoS m
  ps : PS X st (tS K n m)
structure SB (K : PySem.W.Frag) (n : Nat) (X : Cx) (sts : List Stmt) (m : MS) : Prop where
  mono : MoS m
  ps : PSs X sts (tS K n m)
section
variable {X : Cx}
theorem pe_weak {e : Expr} {t t' : TE} (h : PE X e t) (w : ∀ σ H Q, t' σ H Q → t σ H Q) : PE X e t' := ⟨fun pins s σ H Q I q => h.run pins s σ H Q I (w σ H Q q)⟩
theorem pt_weak {e : Expr} {t t' : TT} (h : PT X e t) (w : ∀ σ H Q, t' σ H Q → t σ H Q) : PT X e t' := ⟨fun pins s σ H Q I q => h.run pins s σ H Q I (w σ H Q q)⟩
theorem pa_weak {e : List Expr} {t t' : TA} (h : PA X e t) (w : ∀ σ H Q, t' σ H Q → t σ H Q) : PA X e t' := ⟨fun pos pins s σ H Q I q => h.run pos pins s σ H Q I (w σ H Q q)⟩
theorem ps_weak {e : Stmt} {t t' : TS} (h : PS X e t) (w : ∀ D σ H, t' D σ H → t D σ H) : PS X e t' := ⟨fun pins s σ H D I q => h.run pins s σ H D I (w D σ H q)⟩
theorem pss_weak {e : List Stmt} {t t' : TS} (h : PSs X e t) (w : ∀ D σ H, t' D σ H → t D σ H) : PSs X e t' := ⟨fun pins s σ H D I q => h.run pins s σ H D I (w D σ H q)⟩
end
section
variable {K : PySem.W.Frag} {X : Cx} {e : Expr} {m : ME}
/-- the reading by data, run -/
theorem tE_run {φ : Fl} {σ : L2.St} {G H : Hp} {ρ : Cs} {Q : VK} (R : Rel K σ G H ρ) (h : m ρ fun d ρ' => ∀ v G' H', Rel K σ G' H' ρ' → Lk 0 σ G H ρ σ G' H' ρ' → φ H σ ρ' G' H' v d → Q v H') : tE K φ m σ H Q := ⟨G, ρ, R, h⟩
theorem SE.V (s : SE K (fE K) X e m) : SE K (fV K) X e m := ⟨s.mono, pe_weak s.pe fun σ H Q ⟨G, ρ, R, h⟩ => ⟨G, ρ, R, s.mono ρ _ _ (fun d ρ' q v G' H' R' l r => q v G' H' R' l (.fro r)) h⟩⟩
theorem SE.FV (s : SE K (fF K) X e m) : SE K (fV K) X e m := ⟨s.mono, pe_weak s.pe fun σ H Q ⟨G, ρ, R, h⟩ => ⟨G, ρ, R, s.mono ρ _ _ (fun d ρ' q v G' H' R' l r => by
  obtain ⟨p, o, rfl, _, _, hp, _, ob⟩ := r
  exact q _ G' H' R' l (.own hp ob)) h⟩⟩
/-- G with an object of H -/
theorem same_put {G H : Hp} {p : Addr} {o : HO} (s : Same G H) (h : H p = some o) : Same (upd G p o) H := fun b u e => by
  by_cases q : b = p
  · subst q
    rw [upd_same] at e
    cases e
    exact h
  · rw [upd_ne q] at e
    exact s b u e
theorem same_upd {G : Hp} {p : Addr} {o : HO} (h : G p = none) : Same G (upd G p o) := fun b x e => (upd_ne (ne_of_none e h)).trans e
/-- an unowned one is taken into G -/
theorem Rel.take {σ : L2.St} {G H : Hp} {ρ : Cs} {p : Addr} {o : HO} (R : Rel K σ G H ρ) (hp : H p = some o) (gp : G p = none) (nw : ¬ Ow σ ρ p) : Rel K σ (upd G p o) H ρ := by
  have sg := same_upd (o := o) gp
  refine ⟨same_put R.gh hp, R.len, fun i d e => ?_, fun i d e => ?_, R.apart⟩
  · obtain ⟨v, h, r⟩ := R.fro i d e
    exact ⟨v, h, rp_same sg r⟩
  · obtain ⟨q, o', h, hq, gq, r⟩ := R.own i d e
    exact ⟨q, o', h, hq, by rw [upd_ne (fun z => nw (by subst z; exact ⟨i, d, e, h⟩))]; exact gq, ob_same sg r⟩
theorem SE.F (s : SE K (fF K) X e m) : SE K (fE K) X e m := ⟨s.mono, pe_weak s.pe fun σ H Q ⟨G, ρ, R, h⟩ => ⟨G, ρ, R, s.mono ρ _ _ (fun d ρ' q v G' H' R' l r => by
  obtain ⟨p, o, rfl, h0, nw, hp, gp, ob⟩ := r
  have sg := same_upd (o := o) gp
  refine q _ (upd G' p o) H' (R'.take hp gp nw) ⟨⟨l.st.gg.trans sg, l.st.hh, fun a u n e g t => ?_, l.st.dom⟩, l.sb, l.pn⟩ (ob_rp (ob_same sg ob) upd_same)
  rw [upd_ne (fun z => by subst z; rw [h0] at e; cases e)]
  exact l.st.fr a u n e g t) h⟩⟩
end
/-! ### names, constants -/
section
variable {K : PySem.W.Frag} {X : Cx}
def mVar (i : Nat) : ME := fun ρ k => match ρ[i]? with
  | some (.fro d) => k d ρ
  | _ => False
/-- an owned one, read -/
def mOwn (i : Nat) : ME := fun ρ k => match ρ[i]? with
  | some (.own d) => k d ρ
  | some (.fro d) => k d ρ
  | _ => False
/-- an owned one, given away -/
def mFrz (i : Nat) : ME := fun ρ k => match ρ[i]? with
  | some (.own d) => k d (ρ.set i (.fro d))
  | some (.fro d) => k d ρ
  | _ => False
def mC (d : D) : ME := fun ρ k => k d ρ
theorem se_var {i : Nat} {e : Expr} (h : PE X e (tVar i)) : SE K (fE K) X e (mVar i) := by
  constructor
  · intro ρ k k' h
    unfold mVar
    split
    · exact h _ _
    · exact id
  · refine pe_weak h fun σ H Q ⟨G, ρ, R, h⟩ => ?_
    unfold mVar at h
    split at h
    · rename_i d e
      obtain ⟨v, hv, r⟩ := R.fro i d e
      exact ⟨v, hv, h v G H R .refl r⟩
    · exact h.elim
theorem se_own {i : Nat} {e : Expr} (h : PE X e (tVar i)) : SE K (fV K) X e (mOwn i) := by
  constructor
  · intro ρ k k' h
    unfold mOwn
    split
    · exact h _ _
    · exact h _ _
    · exact id
  · refine pe_weak h fun σ H Q ⟨G, ρ, R, h⟩ => ?_
    unfold mOwn at h
    split at h
    · rename_i d e
      obtain ⟨p, o, hv, hp, gp, r⟩ := R.own i d e
      exact ⟨_, hv, h _ G H R .refl (.own hp r)⟩
    · rename_i d e
      obtain ⟨v, hv, r⟩ := R.fro i d e
      exact ⟨v, hv, h v G H R .refl (.fro r)⟩
    · exact h.elim
theorem set_get {α : Type} {l : List α} {i j : Nat} {x y : α} (h : (l.set i x)[j]? = some y) : (j = i ∧ i < l.length ∧ y = x) ∨ (j ≠ i ∧ l[j]? = some y) := by
  by_cases e : j = i
  · subst e
    rw [List.getElem?_set_self'] at h
    cases q : l[j]? with
    | none => rw [q] at h; cases h
    | some z =>
      rw [q] at h
      exact .inl ⟨rfl, (List.getElem?_eq_some_iff.mp q).1, (Option.some.inj h).symm⟩
  · rw [List.getElem?_set_ne (fun z => e z.symm)] at h
    exact .inr ⟨e, h⟩
theorem se_frz {i : Nat} {e : Expr} (h : PE X e (tVar i)) : SE K (fE K) X e (mFrz i) := by
  constructor
  · intro ρ k k' h
    unfold mFrz
    split
    · exact h _ _
    · exact h _ _
    · exact id
  · refine pe_weak h fun σ H Q ⟨G, ρ, R, h⟩ => ?_
    unfold mFrz at h
    split at h
    · rename_i d e
      obtain ⟨p, o, hv, hp, gp, r⟩ := R.own i d e
      have sg := same_upd (o := o) gp
      refine ⟨_, hv, h _ (upd G p o) H ⟨same_put R.gh hp, by rw [List.length_set]; exact R.len, fun j c q => ?_, fun j c q => ?_, fun j l a c c' q q' => ?_⟩ ⟨⟨sg, fun _ _ _ h => h, fun a u n e1 g t => ?_, fun _ h => h⟩, (fun q w => ?_), fun _ _ => rfl⟩ (ob_rp (ob_same sg r) upd_same)⟩
      · rcases set_get q with ⟨rfl, _, z⟩ | ⟨_, z⟩
        · cases z
          exact ⟨_, hv, ob_rp (ob_same sg r) upd_same⟩
        · obtain ⟨v, h1, h2⟩ := R.fro j c z
          exact ⟨v, h1, rp_same sg h2⟩
      · rcases set_get q with ⟨rfl, _, z⟩ | ⟨ne, z⟩
        · cases z
        · obtain ⟨p', o', h1, h2, h3, h4⟩ := R.own j c z
          refine ⟨p', o', h1, h2, ?_, ob_same sg h4⟩
          rw [upd_ne (fun w => by subst w; exact ne (R.apart j i p' c d z e h1 hv))]
          exact h3
      · rcases set_get q with ⟨_, _, z⟩ | ⟨_, z⟩
        · cases z
        · rcases set_get q' with ⟨_, _, z'⟩ | ⟨_, z'⟩
          · cases z'
          · exact R.apart j l a c c' z z'
      · rw [upd_ne (fun w => by subst w; exact n ⟨i, d, e, hv⟩)]
        exact g
      · obtain ⟨j, c, q1, q2⟩ := w
        rcases set_get q1 with ⟨_, _, z⟩ | ⟨_, z⟩
        · cases z
        · exact .inl ⟨j, c, z, q2⟩
    · rename_i d e
      obtain ⟨v, hv, r⟩ := R.fro i d e
      exact ⟨v, hv, h v G H R .refl r⟩
    · exact h.elim
theorem se_const {v : V} {d : D} {e : Expr} (p : PE X e (tC v)) (h : ∀ G, Rp K G v d) : SE K (fE K) X e (mC d) :=
  ⟨fun _ _ _ h q => h _ _ q, pe_weak p fun σ H Q ⟨G, ρ, R, q⟩ => q v G H R .refl (h G)⟩
theorem se_int {i : Int} {j pos} : SE K (fE K) X (.Constant (.int i) j pos) (mC (.int i)) := se_const pe_int fun _ => .int i
theorem se_str {x : Str} {j pos} : SE K (fE K) X (.Constant (.str x) j pos) (mC (.str x)) := se_const pe_str fun _ => .str x
theorem se_bl {b : Bool} {j pos} : SE K (fE K) X (.Constant (.bool b) j pos) (mC (.bool b)) := se_const pe_bl fun _ => .bl b
theorem se_non {j pos} : SE K (fE K) X (.Constant .none j pos) (mC .none) := se_const pe_non fun _ => .non
end
end Dl

set_option Elab.async false
set_option linter.all false
set_option maxRecDepth 100000
set_option maxHeartbeats 4000000
namespace Dl
open PySem PySem.Spec PyProof.Rows L2
/-! ### operations: what is read gives data, or a new list or dict -/
abbrev PF := Hp → Hp → Hp → V → D → Prop
def pE (K : PySem.W.Frag) : PF := fun _ G _ v d => Rp K G v d
def pF (K : PySem.W.Frag) : PF := fun H0 G H v d => ∃ p o, v = .ref p ∧ H0 p = none ∧ H p = some o ∧ G p = none ∧ ObR K G o d
def Emb (K : PySem.W.Frag) (π : PF) (φ : Fl) : Prop := ∀ (σ : L2.St) (ρ0 ρ : Cs) (G0 H0 G H G' H' : Hp) (v : V) (d : D), Rel K σ G H ρ → Lk 0 σ G0 H0 ρ0 σ G H ρ → π H G' H' v d → φ H0 σ ρ G' H' v d
theorem embE {K : PySem.W.Frag} : Emb K (pE K) (fE K) := fun _ _ _ _ _ _ _ _ _ _ _ _ _ h => h
theorem embF {K : PySem.W.Frag} : Emb K (pF K) (fF K) := fun σ ρ0 ρ G0 H0 G H G' H' v d R l ⟨p, o, e, h0, hp, gp, ob⟩ => ⟨p, o, e, l.st.dom p h0, fun w => R.old w h0, hp, gp, ob⟩
abbrev O1 := D → (D → Prop) → Prop
abbrev O2 := D → D → (D → Prop) → Prop
abbrev On := List D → (D → Prop) → Prop
structure Op2 (K : PySem.W.Frag) (π : PF) (r : R2) (o : O2) : Prop where
  mono : ∀ a b (k k' : D → Prop), (∀ d, k d → k' d) → o a b k → o a b k'
  run : ∀ (G H : Hp) (x y : V) (a b : D) (Q : VK), Same G H → Vw K G H x a → Vw K G H y b → o a b (fun d => ∀ v G' H', Same G' H' → Stp Pure G H G' H' → π H G' H' v d → Q v H') → r x y H Q
structure Op1 (K : PySem.W.Frag) (π : PF) (r : V → Hp → VK → Prop) (o : O1) : Prop where
  mono : ∀ a (k k' : D → Prop), (∀ d, k d → k' d) → o a k → o a k'
  run : ∀ (G H : Hp) (x : V) (a : D) (Q : VK), Same G H → Vw K G H x a → o a (fun d => ∀ v G' H', Same G' H' → Stp Pure G H G' H' → π H G' H' v d → Q v H') → r x H Q
structure Opn (K : PySem.W.Frag) (π : PF) (r : List V → Hp → VK → Prop) (o : On) : Prop where
  mono : ∀ a (k k' : D → Prop), (∀ d, k d → k' d) → o a k → o a k'
  run : ∀ (G H : Hp) (xs : List V) (as : List D) (Q : VK), Same G H → RpAll K G xs as → o as (fun d => ∀ v G' H', Same G' H' → Stp Pure G H G' H' → π H G' H' v d → Q v H') → r xs H Q
theorem stp_refl {G H : Hp} : Stp Pure G H G H := .refl
section
variable {K : PySem.W.Frag} {X : Cx} {a b : Expr} {ma mb : ME} {pos : Pos} {π : PF} {φ : Fl}
def mOp (o : O2) (ma mb : ME) : ME := fun ρ k => ma ρ fun da ρ1 => mb ρ1 fun db ρ2 => o da db fun d => k d ρ2
/-- the left one is owned: it is read when the right one is there -/
def mOpO (o : O2) (i : Nat) (mb : ME) : ME := fun ρ k => mOwn i ρ fun _ _ => mb ρ fun db ρ2 => mOwn i ρ2 fun da _ => o da db fun d => k d ρ2
def mUn (o : O1) (ma : ME) : ME := fun ρ k => ma ρ fun da ρ1 => o da fun d => k d ρ1
def mOn (o : On) (ma : MA) : ME := fun ρ k => ma ρ fun ds ρ1 => o ds fun d => k d ρ1
theorem mo_op {o : O2} (h : ∀ a b (k k' : D → Prop), (∀ d, k d → k' d) → o a b k → o a b k') (ha : Mo ma) (hb : Mo mb) : Mo (mOp o ma mb) := fun ρ k k' w => ha ρ _ _ fun da ρ1 => hb ρ1 _ _ fun db ρ2 => h _ _ _ _ fun d => w d ρ2
theorem mo_own {i : Nat} : Mo (mOwn i) := by
  intro ρ k k' h
  unfold mOwn
  split
  · exact h _ _
  · exact h _ _
  · exact id
theorem mo_opO {o : O2} {i : Nat} (h : ∀ a b (k k' : D → Prop), (∀ d, k d → k' d) → o a b k → o a b k') (hb : Mo mb) : Mo (mOpO o i mb) := fun ρ k k' w => mo_own ρ _ _ fun _ _ => hb ρ _ _ fun db ρ2 => mo_own ρ2 _ _ fun da _ => h _ _ _ _ fun d => w d ρ2
theorem mo_un {o : O1} (h : ∀ a (k k' : D → Prop), (∀ d, k d → k' d) → o a k → o a k') (ha : Mo ma) : Mo (mUn o ma) := fun ρ k k' w => ha ρ _ _ fun da ρ1 => h _ _ _ fun d => w d ρ1
theorem vw_of {G H G' H' : Hp} {σ : L2.St} {ρ : Cs} {v : V} {d : D} (r : Rp K G v d) (l : Lk 0 σ G H ρ σ G' H' ρ') : Vw K G' H' v d := .fro (rp_same l.st.gg r)
/-- the reading of two operands and an operation -/
theorem t_op {r : R2} {o : O2} (ho : Op2 K π r o) (em : Emb K π φ) (ha : SE K (fE K) X a ma) (hb : SE K (fV K) X b mb) (σ : L2.St) (H : Hp) (Q : VK) (h : tE K φ (mOp o ma mb) σ H Q) : tOp r (tE K (fE K) ma) (tE K (fV K) mb) σ H Q := by
  obtain ⟨G, ρ, R, h⟩ := h
  refine ⟨G, ρ, R, ha.mono ρ _ _ (fun da ρ1 q x G1 H1 R1 l1 rx => ⟨G1, ρ1, R1, hb.mono ρ1 _ _ (fun db ρ2 q2 y G2 H2 R2 l2 ry => ?_) q⟩) h⟩
  refine ho.run G2 H2 x y da db Q R2.gh (vw_of rx l2) ry (ho.mono _ _ _ _ (fun d q3 v G3 H3 gh st pv => ?_) q2)
  exact q3 v G3 H3 (R2.pure st gh) ((l1.trans l2).trans (.pure st)) (em σ ρ ρ2 G H G2 H2 G3 H3 v d R2 (l1.trans l2) pv)
/-- what is read of a slot: its value is there -/
theorem own_there {σ : L2.St} {G H : Hp} {ρ : Cs} {i : Nat} {k : D → Cs → Prop} (R : Rel K σ G H ρ) (h : mOwn i ρ k) : ∃ x d, σ[i]? = some (some x) ∧ Vw K G H x d ∧ k d ρ := by
  unfold mOwn at h
  split at h
  · rename_i da e
    obtain ⟨p, ob, hv, hp, gp, rr⟩ := R.own i da e
    exact ⟨_, da, hv, .own hp rr, h⟩
  · rename_i da e
    obtain ⟨v, hv, rr⟩ := R.fro i da e
    exact ⟨v, da, hv, .fro rr, h⟩
  · exact h.elim
theorem t_opO {r : R2} {o : O2} {i : Nat} (ho : Op2 K π r o) (em : Emb K π φ) (hb : SE K (fV K) X b mb) (σ : L2.St) (H : Hp) (Q : VK) (h : tE K φ (mOpO o i mb) σ H Q) : tOp r (tVar i) (tE K (fV K) mb) σ H Q := by
  obtain ⟨G, ρ, R, h⟩ := h
  obtain ⟨x, _, hx, _, h⟩ := own_there R h
  refine ⟨x, hx, G, ρ, R, hb.mono ρ _ _ (fun db ρ2 q2 y G2 H2 R2 l2 ry => ?_) h⟩
  obtain ⟨x', da, hx', vx, q2⟩ := own_there R2 q2
  rw [hx] at hx'
  cases hx'
  exact ho.run G2 H2 x y da db Q R2.gh vx ry (ho.mono _ _ _ _ (fun d q3 v G3 H3 gh st pv => q3 v G3 H3 (R2.pure st gh) (l2.trans (.pure st)) (em σ ρ ρ2 G H G2 H2 G3 H3 v d R2 l2 pv)) q2)
theorem se_op {op : Operator} {r : R2} {o : O2} (hr : OpR X (binaryOp op) r) (ho : Op2 K π r o) (em : Emb K π φ) (ha : SE K (fE K) X a ma) (hb : SE K (fV K) X b mb) : SE K φ X (.BinOp a op b pos) (mOp o ma mb) :=
  ⟨mo_op ho.mono ha.mono hb.mono, pe_weak (pe_op hr ha.pe hb.pe) (t_op ho em ha hb)⟩
theorem se_cmp {op : CmpOp} {r : R2} {o : O2} (hr : OpR X (compareOp op) r) (ho : Op2 K π r o) (em : Emb K π φ) (ha : SE K (fE K) X a ma) (hb : SE K (fV K) X b mb) (hm : behindInMarks op b = false) : SE K φ X (.Compare a [op] [b] pos) (mOp o ma mb) :=
  ⟨mo_op ho.mono ha.mono hb.mono, pe_weak (pe_cmpR hr ha.pe hb.pe hm) (t_op ho em ha hb)⟩
theorem se_ix {r : R2} {o : O2} (hr : IxR X r) (ho : Op2 K π r o) (em : Emb K π φ) (ha : SE K (fE K) X a ma) (hb : SE K (fV K) X b mb) (hs : PlainIx b) : SE K φ X (.Subscript a b pos) (mOp o ma mb) :=
  ⟨mo_op ho.mono ha.mono hb.mono, pe_weak (pe_ix hr ha.pe hb.pe hs) (t_op ho em ha hb)⟩
theorem se_ixO {r : R2} {o : O2} {i : Nat} (hr : IxR X r) (ho : Op2 K π r o) (em : Emb K π φ) (ha : PE X a (tVar i)) (hb : SE K (fV K) X b mb) (hs : PlainIx b) : SE K φ X (.Subscript a b pos) (mOpO o i mb) :=
  ⟨mo_opO ho.mono hb.mono, pe_weak (pe_ix hr ha hb.pe hs) (t_opO ho em hb)⟩
theorem se_un {op : UnaryOp} {r : V → Hp → VK → Prop} {o : O1} (hr : UnR X (unaryOp op) r) (ho : Op1 K π r o) (em : Emb K π φ) (ha : SE K (fV K) X a ma) : SE K φ X (.UnaryOp op a pos) (mUn o ma) := by
  refine ⟨mo_un ho.mono ha.mono, pe_weak (pe_un hr ha.pe) fun σ H Q h => ?_⟩
  obtain ⟨G, ρ, R, h⟩ := h
  refine ⟨G, ρ, R, ha.mono ρ _ _ (fun da ρ1 q x G1 H1 R1 l1 rx => ?_) h⟩
  exact ho.run G1 H1 x da Q R1.gh rx (ho.mono _ _ _ (fun d q3 v G3 H3 gh st pv => q3 v G3 H3 (R1.pure st gh) (l1.trans (.pure st)) (em σ ρ ρ1 G H G1 H1 G3 H3 v d R1 l1 pv)) q)
/-! ### tests -/
def mTest (m : ME) : MT := fun ρ k => m ρ fun d ρ1 => match d with
  | .bool b => k b ρ1
  | _ => False
theorem mo_test {m : ME} (h : Mo m) : Mo (mTest m) := fun ρ k k' w => h ρ _ _ fun d ρ1 => by
  cases d <;> first | exact w _ _ | exact id
theorem st_val {e : Expr} {m : ME} (h : SE K (fE K) X e m) (he : ∀ whole, isTrue e X.env whole = (do let v ← whole; standAt e.pos; holding [v] (truthy v)) := by intro _; rfl) : ST K X e (mTest m) := by
  refine ⟨mo_test h.mono, pt_weak (pt_val h.pe he) fun σ H Q ⟨G, ρ, R, q⟩ => ⟨G, ρ, R, h.mono ρ _ _ (fun d ρ1 q v G1 H1 R1 l r => ?_) q⟩⟩
  cases d with
  | bool b =>
    cases r
    exact ⟨b, rfl, q G1 H1 R1 l⟩
  | _ => exact q.elim
theorem st_cmp {op : CmpOp} {r : R2} {o : O2} (hr : OpR X (compareOp op) r) (ho : Op2 K (pE K) r o) (ha : SE K (fE K) X a ma) (hb : SE K (fV K) X b mb) (hm : behindInMarks op b = false) : ST K X (.Compare a [op] [b] pos) (mTest (mOp o ma mb)) := by
  refine ⟨mo_test (mo_op ho.mono ha.mono hb.mono), pt_weak (pt_cmpR hr ha.pe hb.pe hm) fun σ H Q ⟨G, ρ, R, q⟩ => ?_⟩
  refine t_op (φ := fE K) ho embE ha hb σ H _ ⟨G, ρ, R, mo_op ho.mono ha.mono hb.mono ρ _ _ (fun d ρ1 q v G1 H1 R1 l r => ?_) q⟩
  cases d with
  | bool b =>
    cases r
    exact ⟨b, rfl, q G1 H1 R1 l⟩
  | _ => exact q.elim
def mNot (t : MT) : MT := fun ρ k => t ρ fun b ρ1 => k (!b) ρ1
def mAnd (t u : MT) : MT := fun ρ k => t ρ fun b ρ1 => if b = true then u ρ1 k else k false ρ1
def mOr (t u : MT) : MT := fun ρ k => t ρ fun b ρ1 => if b = true then k true ρ1 else u ρ1 k
variable {tm um : MT}
theorem st_not (h : ST K X a tm) : ST K X (.UnaryOp .Not a pos) (mNot tm) :=
  ⟨fun ρ k k' w => h.mono ρ _ _ fun b ρ1 => w _ _, pt_weak (pt_not h.pt) fun σ H Q ⟨G, ρ, R, q⟩ => ⟨G, ρ, R, q⟩⟩
structure SW (K : PySem.W.Frag) (X : Cx) (e : Expr) (m : MT) : Prop where
  mono : Mo m
  pw : PW X e (tT K m)
theorem pw_weak {e : Expr} {t t' : TT} (h : PW X e t) (w : ∀ σ H Q, t' σ H Q → t σ H Q) : PW X e t' := ⟨fun wh pins s σ H Q I q => h.run wh pins s σ H Q I (w σ H Q q)⟩
theorem sw_and1 (h : ST K X a tm) : SW K X (.BoolOp .And [a] pos) tm := ⟨h.mono, pw_and1 h.pt⟩
theorem sw_or1 (h : ST K X a tm) : SW K X (.BoolOp .Or [a] pos) tm := ⟨h.mono, pw_or1 h.pt⟩
theorem mo_and (h : Mo tm) (g : Mo um) : Mo (mAnd tm um) := fun ρ k k' w => h ρ _ _ fun c ρ1 q => by
  cases c
  · exact w _ _ q
  · exact g ρ1 _ _ w q
theorem mo_or (h : Mo tm) (g : Mo um) : Mo (mOr tm um) := fun ρ k k' w => h ρ _ _ fun c ρ1 q => by
  cases c
  · exact g ρ1 _ _ w q
  · exact w _ _ q
theorem t_and (h : Mo tm) (g : Mo um) (σ : L2.St) (H : Hp) (Q : Bool → Hp → Prop) (q : tT K (mAnd tm um) σ H Q) : tAnd (tT K tm) (tT K um) σ H Q := by
  obtain ⟨G, ρ, R, q⟩ := q
  refine ⟨G, ρ, R, h ρ _ _ (fun c ρ1 q G1 H1 R1 l => ?_) q⟩
  cases c
  · exact q G1 H1 R1 l
  · exact ⟨G1, ρ1, R1, g ρ1 _ _ (fun b ρ2 q G2 H2 R2 l2 => q G2 H2 R2 (l.trans l2)) q⟩
theorem t_or (h : Mo tm) (g : Mo um) (σ : L2.St) (H : Hp) (Q : Bool → Hp → Prop) (q : tT K (mOr tm um) σ H Q) : tOr (tT K tm) (tT K um) σ H Q := by
  obtain ⟨G, ρ, R, q⟩ := q
  refine ⟨G, ρ, R, h ρ _ _ (fun c ρ1 q G1 H1 R1 l => ?_) q⟩
  cases c
  · exact ⟨G1, ρ1, R1, g ρ1 _ _ (fun b ρ2 q G2 H2 R2 l2 => q G2 H2 R2 (l.trans l2)) q⟩
  · exact q G1 H1 R1 l
variable {rest : List Expr}
theorem sw_and (h : ST K X a tm) (g : SW K X (.BoolOp .And (b :: rest) pos) um) : SW K X (.BoolOp .And (a :: b :: rest) pos) (mAnd tm um) := ⟨mo_and h.mono g.mono, pw_weak (pw_and h.pt g.pw) (t_and h.mono g.mono)⟩
theorem sw_or (h : ST K X a tm) (g : SW K X (.BoolOp .Or (b :: rest) pos) um) : SW K X (.BoolOp .Or (a :: b :: rest) pos) (mOr tm um) := ⟨mo_or h.mono g.mono, pw_weak (pw_or h.pt g.pw) (t_or h.mono g.mono)⟩
theorem SW.st {e : Expr} (h : SW K X e tm) : ST K X e tm := ⟨h.mono, h.pw.pt⟩
/-! and, or, not as values: of truths -/
def mAndV (ma mb : ME) : ME := fun ρ k => ma ρ fun d ρ1 => match d with
  | .bool true => mb ρ1 k
  | .bool false => k (.bool false) ρ1
  | _ => False
def mOrV (ma mb : ME) : ME := fun ρ k => ma ρ fun d ρ1 => match d with
  | .bool true => k (.bool true) ρ1
  | .bool false => mb ρ1 k
  | _ => False
def mNotV (ma : ME) : ME := fun ρ k => ma ρ fun d ρ1 => match d with
  | .bool b => k (.bool !b) ρ1
  | _ => False
theorem se_one {op} (h : SE K φ X a ma) : SE K φ X (.BoolOp op [a] pos) ma := ⟨h.mono, pe_one h.pe⟩
theorem se_and (h : SE K (fE K) X a ma) (g : SE K (fE K) X (.BoolOp .And (b :: rest) pos) mb) : SE K (fE K) X (.BoolOp .And (a :: b :: rest) pos) (mAndV ma mb) := by
  constructor
  · intro ρ k k' w
    refine h.mono ρ _ _ fun d ρ1 q => ?_
    rcases d with _ | (_ | _) | _ | _ | _ | _ | _ | _
    all_goals first | exact q.elim | exact w _ _ q | exact g.mono ρ1 _ _ w q
  · refine pe_weak (pe_and h.pe g.pe) fun σ H Q ⟨G, ρ, R, q⟩ => ⟨G, ρ, R, h.mono ρ _ _ (fun d ρ1 q v G1 H1 R1 l r => ?_) q⟩
    rcases d with _ | (_ | _) | _ | _ | _ | _ | _ | _
    all_goals first | exact q.elim | skip
    · cases r
      exact ⟨false, rfl, q _ G1 H1 R1 l (.bl false)⟩
    · cases r
      exact ⟨true, rfl, G1, ρ1, R1, g.mono ρ1 _ _ (fun d ρ2 q v G2 H2 R2 l2 => q v G2 H2 R2 (l.trans l2)) q⟩
theorem se_or (h : SE K (fE K) X a ma) (g : SE K (fE K) X (.BoolOp .Or (b :: rest) pos) mb) : SE K (fE K) X (.BoolOp .Or (a :: b :: rest) pos) (mOrV ma mb) := by
  constructor
  · intro ρ k k' w
    refine h.mono ρ _ _ fun d ρ1 q => ?_
    rcases d with _ | (_ | _) | _ | _ | _ | _ | _ | _
    all_goals first | exact q.elim | exact w _ _ q | exact g.mono ρ1 _ _ w q
  · refine pe_weak (pe_or h.pe g.pe) fun σ H Q ⟨G, ρ, R, q⟩ => ⟨G, ρ, R, h.mono ρ _ _ (fun d ρ1 q v G1 H1 R1 l r => ?_) q⟩
    rcases d with _ | (_ | _) | _ | _ | _ | _ | _ | _
    all_goals first | exact q.elim | skip
    · cases r
      exact ⟨false, rfl, G1, ρ1, R1, g.mono ρ1 _ _ (fun d ρ2 q v G2 H2 R2 l2 => q v G2 H2 R2 (l.trans l2)) q⟩
    · cases r
      exact ⟨true, rfl, q _ G1 H1 R1 l (.bl true)⟩
theorem se_not (h : SE K (fE K) X a ma) : SE K (fE K) X (.UnaryOp .Not a pos) (mNotV ma) := by
  constructor
  · intro ρ k k' w
    refine h.mono ρ _ _ fun d ρ1 q => ?_
    cases d <;> first | exact q.elim | exact w _ _ q
  · refine pe_weak (pe_not h.pe) fun σ H Q ⟨G, ρ, R, q⟩ => ⟨G, ρ, R, h.mono ρ _ _ (fun d ρ1 q v G1 H1 R1 l r => ?_) q⟩
    cases d <;> first | exact q.elim | skip
    cases r
    exact ⟨_, rfl, q _ G1 H1 R1 l (.bl _)⟩
def mIfE (t : MT) (ma mb : ME) : ME := fun ρ k => t ρ fun c ρ1 => if c = true then ma ρ1 k else mb ρ1 k
theorem se_if {c : Expr} (hc : ST K X c tm) (h : SE K φ X a ma) (g : SE K φ X b mb) (hφ : ∀ (σ : L2.St) (ρ ρ1 ρ2 : Cs) (G H G1 H1 G2 H2 : Hp) (v : V) (d : D), Lk 0 σ G H ρ σ G1 H1 ρ1 → φ H1 σ ρ2 G2 H2 v d → φ H σ ρ2 G2 H2 v d) : SE K φ X (.IfExp c a b pos) (mIfE tm ma mb) := by
  constructor
  · intro ρ k k' w
    refine hc.mono ρ _ _ fun c ρ1 q => ?_
    cases c
    · exact g.mono ρ1 _ _ w q
    · exact h.mono ρ1 _ _ w q
  · refine pe_weak (pe_ifExp hc.pt h.pe g.pe) fun σ H Q ⟨G, ρ, R, q⟩ => ⟨G, ρ, R, hc.mono ρ _ _ (fun c ρ1 q G1 H1 R1 l => ?_) q⟩
    cases c
    · exact ⟨G1, ρ1, R1, g.mono ρ1 _ _ (fun d ρ2 q v G2 H2 R2 l2 r => q v G2 H2 R2 (l.trans l2) (hφ σ ρ ρ1 ρ2 G H G1 H1 G2 H2 v d l r)) q⟩
    · exact ⟨G1, ρ1, R1, h.mono ρ1 _ _ (fun d ρ2 q v G2 H2 R2 l2 r => q v G2 H2 R2 (l.trans l2) (hφ σ ρ ρ1 ρ2 G H G1 H1 G2 H2 v d l r)) q⟩
theorem keepE : ∀ (σ : L2.St) (ρ ρ1 ρ2 : Cs) (G H G1 H1 G2 H2 : Hp) (v : V) (d : D), Lk 0 σ G H ρ σ G1 H1 ρ1 → fE K H1 σ ρ2 G2 H2 v d → fE K H σ ρ2 G2 H2 v d := fun _ _ _ _ _ _ _ _ _ _ _ _ _ h => h
/-! ### arguments, displays -/
def aNil : MA := fun ρ k => k [] ρ
def aCons (m : ME) (r : MA) : MA := fun ρ k => m ρ fun d ρ1 => r ρ1 fun ds ρ2 => k (d :: ds) ρ2
variable {es : List Expr} {mr : MA}
theorem sa_nil : SA K X [] aNil := ⟨fun ρ k k' w => w _ _, pa_weak pa_nil fun σ H Q ⟨G, ρ, R, q⟩ => q [] G H R .refl .nil⟩
theorem mo_cons (h : Mo ma) (g : Mo mr) : Mo (aCons ma mr) := fun ρ k k' w => h ρ _ _ fun d ρ1 => g ρ1 _ _ fun ds ρ2 => w _ _
theorem t_cons (h : Mo ma) (g : Mo mr) (σ : L2.St) (H : Hp) (Q : List V → Hp → Prop) (q : tA K (aCons ma mr) σ H Q) : tCons (tE K (fE K) ma) (tA K mr) σ H Q := by
  obtain ⟨G, ρ, R, q⟩ := q
  exact ⟨G, ρ, R, h ρ _ _ (fun d ρ1 q v G1 H1 R1 l r => ⟨G1, ρ1, R1, g ρ1 _ _ (fun ds ρ2 q vs G2 H2 R2 l2 rs => q _ G2 H2 R2 (l.trans l2) (.cons (rp_same l2.st.gg r) rs)) q⟩) q⟩
theorem sa_cons (h : SE K (fE K) X a ma) (g : SA K X es mr) (hs : starEach (a :: es) X.env = (false, eval a X.env) :: starEach es X.env := by rfl) : SA K X (a :: es) (aCons ma mr) :=
  ⟨mo_cons h.mono g.mono, pa_weak (pa_cons h.pe g.pa hs) (t_cons h.mono g.mono)⟩
/-- an object of one's own making, outside of G -/
theorem stp_new {G H : Hp} {p : Addr} {o : HO} (h : H p = none) : Stp Pure G H G (upd H p o) :=
  ⟨Same.refl G, fun a u _ e => (upd_ne (ne_of_none e h)).trans e, fun _ _ _ _ g _ => g, fun a e => by
    by_cases q : a = p
    · subst q; exact h
    · rw [upd_ne q] at e; exact e⟩
/-- .. within G -/
theorem stp_newG {G H : Hp} {p : Addr} {o : HO} (s : Same G H) (h : H p = none) : Stp Pure G H (upd G p o) (upd H p o) :=
  ⟨same_upd (s.free h), fun a u _ e => (upd_ne (ne_of_none e h)).trans e, fun a u _ e g _ => (upd_ne (ne_of_none e h)).trans g, fun a e => by
    by_cases q : a = p
    · subst q; exact h
    · rw [upd_ne q] at e; exact e⟩
theorem same_new2 {G H : Hp} {p : Addr} {o : HO} (s : Same G H) (h : H p = none) : Same (upd G p o) (upd H p o) := fun b u e => by
  by_cases q : b = p
  · subst q; rw [upd_same] at e ⊢; exact e
  · rw [upd_ne q] at e ⊢; exact s b u e
theorem same_new1 {G H : Hp} {p : Addr} {o : HO} (s : Same G H) (h : H p = none) : Same G (upd H p o) := fun b u e => (upd_ne (ne_of_none (s b u e) h)).trans (s b u e)
def mTup (m : MA) : ME := fun ρ k => m ρ fun ds ρ1 => ds.length ≤ sizeLine ∧ k (.tuple .mad ds) ρ1
def mLst (m : MA) : ME := fun ρ k => m ρ fun ds ρ1 => ds.length ≤ sizeLine ∧ k (.list ds) ρ1
theorem se_tup {x1} (h : SA K X es mr) : SE K (fE K) X (.Tuple es x1 pos) (mTup mr) := by
  refine ⟨fun ρ k k' w => h.mono ρ _ _ fun ds ρ1 q => ⟨q.1, w _ _ q.2⟩, pe_weak (pe_tup h.pa) fun σ H Q ⟨G, ρ, R, q⟩ => ⟨G, ρ, R, h.mono ρ _ _ (fun ds ρ1 q vs G1 H1 R1 l rs => ⟨by rw [rps_len rs]; exact q.1, fun p np => ?_⟩) q⟩⟩
  have st := stp_newG (o := .tup vs) R1.gh np
  exact q.2 _ _ _ (R1.pure st (same_new2 R1.gh np)) (l.trans (.pure st)) (.tup upd_same (rps_same st.gg rs))
theorem se_lst (h : SA K X es mr) : SE K (fF K) X (.List es pos) (mLst mr) := by
  refine ⟨fun ρ k k' w => h.mono ρ _ _ fun ds ρ1 q => ⟨q.1, w _ _ q.2⟩, pe_weak (pe_lst h.pa) fun σ H Q ⟨G, ρ, R, q⟩ => ⟨G, ρ, R, h.mono ρ _ _ (fun ds ρ1 q vs G1 H1 R1 l rs => ⟨by rw [rps_len rs]; exact q.1, fun p np => ?_⟩) q⟩⟩
  have st := stp_new (G := G1) (o := .lst vs) np
  exact q.2 _ _ _ (R1.pure st (same_new1 R1.gh np)) (l.trans (.pure st)) ⟨p, _, rfl, l.st.dom p np, fun w => R1.old w np, upd_same, R1.gh.free np, .lst rs⟩
end
end Dl

set_option Elab.async false
set_option linter.all false
set_option maxRecDepth 100000
set_option maxHeartbeats 4000000
namespace Dl
open PySem PySem.Spec PyProof.Rows L2
theorem Lk.up {n : Nat} {σ : L2.St} {G H G' H' : Hp} {ρ ρ' : Cs} (l : Lk 0 σ G H ρ σ G' H' ρ') : Lk n σ G H ρ σ G' H' ρ' := ⟨l.st, l.sb, fun _ _ => rfl⟩
section
variable {K : PySem.W.Frag} {X : Cx} {n : Nat} {st : Stmt} {sts : List Stmt} {ms mu : MS} {e c : Expr} {m : ME} {tm : MT} {pos : Pos}
/-! ### statements -/
def sNext : MS := fun E ρ => E.nx ρ
def sSeq (a b : MS) : MS := fun E ρ => a { E with nx := b E } ρ
def sRet (m : ME) : MS := fun E ρ => m ρ E.rt
def sRetN : MS := fun E ρ => E.rt .none ρ
def sDrop (m : ME) : MS := fun E ρ => m ρ fun _ ρ1 => E.nx ρ1
def sIf (t : MT) (a b : MS) : MS := fun E ρ => t ρ fun c ρ1 => if c = true then a E ρ1 else b E ρ1
def sBreak : MS := fun E ρ => E.bk ρ
def sCont : MS := fun E ρ => E.ct ρ
def sSet (i : Nat) (m : ME) : MS := fun E ρ => m ρ fun d ρ1 => E.nx (ρ1.set i (.fro d))
def sSetO (i : Nat) (m : ME) : MS := fun E ρ => m ρ fun d ρ1 => E.nx (ρ1.set i (.own d))
theorem mos_seq (h : MoS ms) (g : MoS mu) : MoS (sSeq ms mu) := fun ρ E E' a b c d => h ρ _ _ (fun ρ1 => g ρ1 _ _ a b c d) b c d
theorem sb_nil : SB K n X [] sNext := ⟨fun ρ E E' a _ _ _ => a ρ, pss_weak pss_nil fun T σ H ⟨G, ρ, E, R, q, a, _⟩ => a σ G H ρ R .refl q⟩
theorem t_seq (h : MoS ms) (g : MoS mu) (T : Ends) (σ : L2.St) (H : Hp) (q : tS K n (sSeq ms mu) T σ H) : tSeq (tS K n ms) (tS K n mu) T σ H := by
  obtain ⟨G, ρ, E, R, q, a, b, c, d⟩ := q
  refine ⟨G, ρ, _, R, q, fun σ1 G1 H1 ρ1 R1 l1 q1 => ?_, b, c, d⟩
  exact ⟨G1, ρ1, E, R1, q1, fun σ2 G2 H2 ρ2 R2 l2 => a σ2 G2 H2 ρ2 R2 (l1.trans l2), fun v d σ2 G2 H2 ρ2 R2 l2 => b v d σ2 G2 H2 ρ2 R2 (l1.trans l2), fun σ2 G2 H2 ρ2 R2 l2 => c σ2 G2 H2 ρ2 R2 (l1.trans l2), fun σ2 G2 H2 ρ2 R2 l2 => d σ2 G2 H2 ρ2 R2 (l1.trans l2)⟩
theorem sb_cons (h : SS K n X st ms) (g : SB K n X sts mu) : SB K n X (st :: sts) (sSeq ms mu) := ⟨mos_seq h.mono g.mono, pss_weak (pss_cons h.ps g.ps) (t_seq h.mono g.mono)⟩
theorem sb_one (h : SS K n X st ms) : SB K n X [st] ms := ⟨h.mono, pss_one h.ps⟩
theorem ss_pass : SS K n X (.Pass pos) sNext := ⟨fun ρ E E' a _ _ _ => a ρ, ps_weak ps_pass fun T σ H ⟨G, ρ, E, R, q, a, _⟩ => a σ G H ρ R .refl q⟩
theorem ss_doc {x j pos pos'} : SS K n X (.Expr (.Constant (.str x) j pos) pos') sNext := ⟨fun ρ E E' a _ _ _ => a ρ, ps_weak ps_doc fun T σ H ⟨G, ρ, E, R, q, a, _⟩ => a σ G H ρ R .refl q⟩
theorem ss_break : SS K n X (.Break pos) sBreak := ⟨fun ρ E E' _ _ a _ => a ρ, ps_weak ps_break fun T σ H ⟨G, ρ, E, R, q, _, _, a, _⟩ => a σ G H ρ R .refl q⟩
theorem ss_continue : SS K n X (.Continue pos) sCont := ⟨fun ρ E E' _ _ _ a => a ρ, ps_weak ps_continue fun T σ H ⟨G, ρ, E, R, q, _, _, _, a⟩ => a σ G H ρ R .refl q⟩
theorem ss_ret (h : SE K (fE K) X e m) : SS K n X (.Return (some e) pos) (sRet m) :=
  ⟨fun ρ E E' _ b _ _ => h.mono ρ _ _ b, ps_weak (ps_ret h.pe) fun T σ H ⟨G, ρ, E, R, q, _, b, _⟩ => ⟨G, ρ, R, h.mono ρ _ _ (fun d ρ1 q v G1 H1 R1 l r => b v d σ G1 H1 ρ1 R1 l.up r q) q⟩⟩
theorem ss_retN : SS K n X (.Return none pos) sRetN := ⟨fun ρ E E' _ b _ _ => b _ ρ, ps_weak ps_retN fun T σ H ⟨G, ρ, E, R, q, _, b, _⟩ => b .non .none σ G H ρ R .refl .non q⟩
theorem ss_expr {φ : Fl} (h : SE K φ X e m) (hs : swapsWith e none pos.line X.env = pure false := by rfl) : SS K n X (.Expr e pos) (sDrop m) :=
  ⟨fun ρ E E' a _ _ _ => h.mono ρ _ _ fun _ ρ1 => a ρ1, ps_weak (ps_expr h.pe hs) fun T σ H ⟨G, ρ, E, R, q, a, _⟩ => ⟨G, ρ, R, h.mono ρ _ _ (fun d ρ1 q v G1 H1 R1 l r => a σ G1 H1 ρ1 R1 l.up q) q⟩⟩
theorem ss_if {a b : List Stmt} (hc : ST K X c tm) (h : SB K n X a ms) (g : SB K n X b mu) : SS K n X (.If c a b pos) (sIf tm ms mu) := by
  refine ⟨fun ρ E E' a b c d => hc.mono ρ _ _ fun t ρ1 q => ?_, ps_weak (ps_if hc.pt h.ps g.ps) fun T σ H ⟨G, ρ, E, R, q, a, b, c, d⟩ => ⟨G, ρ, R, hc.mono ρ _ _ (fun t ρ1 q G1 H1 R1 l => ?_) q⟩⟩
  · cases t
    · exact g.mono ρ1 _ _ a b c d q
    · exact h.mono ρ1 _ _ a b c d q
  · have l := l.up (n := n)
    cases t
    · exact ⟨G1, ρ1, E, R1, q, fun σ2 G2 H2 ρ2 R2 l2 => a σ2 G2 H2 ρ2 R2 (l.trans l2), fun v d σ2 G2 H2 ρ2 R2 l2 => b v d σ2 G2 H2 ρ2 R2 (l.trans l2), fun σ2 G2 H2 ρ2 R2 l2 => c σ2 G2 H2 ρ2 R2 (l.trans l2), fun σ2 G2 H2 ρ2 R2 l2 => d σ2 G2 H2 ρ2 R2 (l.trans l2)⟩
    · exact ⟨G1, ρ1, E, R1, q, fun σ2 G2 H2 ρ2 R2 l2 => a σ2 G2 H2 ρ2 R2 (l.trans l2), fun v d σ2 G2 H2 ρ2 R2 l2 => b v d σ2 G2 H2 ρ2 R2 (l.trans l2), fun σ2 G2 H2 ρ2 R2 l2 => c σ2 G2 H2 ρ2 R2 (l.trans l2), fun σ2 G2 H2 ρ2 R2 l2 => d σ2 G2 H2 ρ2 R2 (l.trans l2)⟩
/-! stores -/
theorem set_ne {α : Type} {l : List α} {i j : Nat} {x : α} (h : j ≠ i) : (l.set i x)[j]? = l[j]? := List.getElem?_set_ne (fun z => h z.symm)
theorem ow_set {σ : L2.St} {ρ : Cs} {i : Nat} {v : V} {c : Cell} {p : Addr} (hl : σ.length = ρ.length) (w : Ow (σ.set i (some v)) (ρ.set i c) p) : Ow σ ρ p ∨ (v = .ref p ∧ ∃ d, c = .own d) := by
  obtain ⟨j, d, h1, h2⟩ := w
  rcases set_get h1 with ⟨rfl, hj, z⟩ | ⟨ne, z⟩
  · rw [List.getElem?_set_self (by omega)] at h2
    cases h2
    exact .inr ⟨rfl, d, z.symm⟩
  · rw [set_ne ne] at h2
    exact .inl ⟨j, d, z, h2⟩
theorem Rel.set {σ : L2.St} {G H : Hp} {ρ : Cs} {i : Nat} {v : V} {d : D} (R : Rel K σ G H ρ) (r : Rp K G v d) : Rel K (σ.set i (some v)) G H (ρ.set i (.fro d)) := by
  have hl := R.len
  refine ⟨R.gh, by rw [List.length_set, List.length_set]; exact R.len, fun j c q => ?_, fun j c q => ?_, fun j l a c c' q q' h h' => ?_⟩
  · rcases set_get q with ⟨rfl, hj, z⟩ | ⟨ne, z⟩
    · cases z
      exact ⟨v, by rw [List.getElem?_set_self (by omega)], r⟩
    · rw [set_ne ne]; exact R.fro j c z
  · rcases set_get q with ⟨rfl, hj, z⟩ | ⟨ne, z⟩
    · cases z
    · rw [set_ne ne]; exact R.own j c z
  · rcases set_get q with ⟨_, _, z⟩ | ⟨ne, z⟩
    · cases z
    · rcases set_get q' with ⟨_, _, z'⟩ | ⟨ne', z'⟩
      · cases z'
      · rw [set_ne ne] at h
        rw [set_ne ne'] at h'
        exact R.apart j l a c c' z z' h h'
theorem Rel.setO {σ : L2.St} {G H : Hp} {ρ : Cs} {i : Nat} {p : Addr} {o : HO} {d : D} (R : Rel K σ G H ρ) (hp : H p = some o) (gp : G p = none) (nw : ¬ Ow σ ρ p) (r : ObR K G o d) : Rel K (σ.set i (some (.ref p))) G H (ρ.set i (.own d)) := by
  have hl := R.len
  refine ⟨R.gh, by rw [List.length_set, List.length_set]; exact R.len, fun j c q => ?_, fun j c q => ?_, fun j l a c c' q q' h h' => ?_⟩
  · rcases set_get q with ⟨rfl, hj, z⟩ | ⟨ne, z⟩
    · cases z
    · rw [set_ne ne]; exact R.fro j c z
  · rcases set_get q with ⟨rfl, hj, z⟩ | ⟨ne, z⟩
    · cases z
      exact ⟨p, o, by rw [List.getElem?_set_self (by omega)], hp, gp, r⟩
    · rw [set_ne ne]; exact R.own j c z
  · rcases set_get q with ⟨e1, hj, z⟩ | ⟨ne, z⟩
    · rcases set_get q' with ⟨e2, _, z'⟩ | ⟨ne', z'⟩
      · exact e1.trans e2.symm
      · subst e1
        rw [set_ne ne'] at h'
        rw [List.getElem?_set_self (by omega)] at h
        cases h
        exact (nw ⟨l, c', z', h'⟩).elim
    · rcases set_get q' with ⟨e2, hj, z'⟩ | ⟨ne', z'⟩
      · subst e2
        rw [set_ne ne] at h
        rw [List.getElem?_set_self (by omega)] at h'
        cases h'
        exact (nw ⟨j, c, z, h⟩).elim
      · rw [set_ne ne] at h
        rw [set_ne ne'] at h'
        exact R.apart j l a c c' z z' h h'
theorem Lk.set {σ : L2.St} {G H G' H' : Hp} {ρ ρ' : Cs} {i : Nat} {v : V} {d : D} (l : Lk n σ G H ρ σ G' H' ρ') (hl : σ.length = ρ'.length) (hi : n ≤ i) : Lk n σ G H ρ (σ.set i (some v)) G' H' (ρ'.set i (.fro d)) :=
  ⟨l.st, fun p w => by
    rcases ow_set hl w with z | ⟨_, _, z⟩
    · exact l.sb p z
    · exact (nomatch z), fun j hj => set_ne (by omega)⟩
theorem Lk.setO {σ : L2.St} {G H G' H' : Hp} {ρ ρ' : Cs} {i : Nat} {p : Addr} {d : D} (l : Lk n σ G H ρ σ G' H' ρ') (hl : σ.length = ρ'.length) (hi : n ≤ i) (h0 : H p = none) : Lk n σ G H ρ (σ.set i (some (.ref p))) G' H' (ρ'.set i (.own d)) :=
  ⟨l.st, fun q w => by
    rcases ow_set hl w with z | ⟨z, _, _⟩
    · exact l.sb q z
    · cases z
      exact .inr h0, fun j hj => set_ne (by omega)⟩
theorem ss_set {i : Nat} {x : Str} {pos' : Pos} (hn : n ≤ i) (hN : X.N.Nodup) (hi : X.N[i]? = some x) (hx : Loc X.env.scope x) (h : SE K (fE K) X e m) (hs : swapsWith e (some (.Name x pos')) pos.line X.env = pure false := by rfl) (hf : X.fn x = true ∨ X.env.scope.names.lookup x = some .local := by first | exact .inl rfl | exact .inr rfl | assumption) :
    SS K n X (.Assign [.Name x pos'] e pos) (sSet i m) :=
  ⟨fun ρ E E' a _ _ _ => h.mono ρ _ _ fun _ ρ1 => a _, ps_weak (ps_set hN hi hx h.pe hs hf) fun T σ H ⟨G, ρ, E, R, q, a, _⟩ => ⟨G, ρ, R, h.mono ρ _ _ (fun d ρ1 q v G1 H1 R1 l r => a _ G1 H1 _ (R1.set r) (l.up.set R1.len hn) q) q⟩⟩
theorem ss_setO {i : Nat} {x : Str} {pos' : Pos} (hn : n ≤ i) (hN : X.N.Nodup) (hi : X.N[i]? = some x) (hx : Loc X.env.scope x) (h : SE K (fF K) X e m) (hs : swapsWith e (some (.Name x pos')) pos.line X.env = pure false := by rfl) (hf : X.fn x = true ∨ X.env.scope.names.lookup x = some .local := by first | exact .inl rfl | exact .inr rfl | assumption) :
    SS K n X (.Assign [.Name x pos'] e pos) (sSetO i m) := by
  refine ⟨fun ρ E E' a _ _ _ => h.mono ρ _ _ fun _ ρ1 => a _, ps_weak (ps_set hN hi hx h.pe hs hf) fun T σ H ⟨G, ρ, E, R, q, a, _⟩ => ⟨G, ρ, R, h.mono ρ _ _ (fun d ρ1 q v G1 H1 R1 l r => ?_) q⟩⟩
  obtain ⟨p, o, rfl, h0, nw, hp, gp, ob⟩ := r
  exact a _ G1 H1 _ (R1.setO hp gp nw ob) (l.up.setO R1.len hn h0) q
/-! targets -/
abbrev MG := D → Cs → (Cs → Prop) → Prop
abbrev MGs := List D → Cs → (Cs → Prop) → Prop
/-- slots beside ts stay -/
def Ch (ts : List Nat) (σ σ' : L2.St) : Prop := σ'.length = σ.length ∧ ∀ j, j ∉ ts → σ'[j]? = σ[j]?
theorem Ch.refl {ts : List Nat} {σ : L2.St} : Ch ts σ σ := ⟨rfl, fun _ _ => rfl⟩
structure SG (K : PySem.W.Frag) (n : Nat) (ts : List Nat) (g : TG) (mg : MG) : Prop where
  mono : ∀ d ρ (k k' : Cs → Prop), (∀ ρ', k ρ' → k' ρ') → mg d ρ k → mg d ρ k'
  run : ∀ (σ : L2.St) (G H : Hp) (ρ : Cs) (v : V) (d : D) (Q : L2.St → Hp → Prop), Rel K σ G H ρ → Rp K G v d → mg d ρ (fun ρ' => ∀ σ', Rel K σ' G H ρ' → Lk n σ G H ρ σ' G H ρ' → Ch ts σ σ' → Q σ' H) → g v σ H Q
structure SGs (K : PySem.W.Frag) (n : Nat) (ts : List Nat) (g : TGs) (mg : MGs) : Prop where
  mono : ∀ d ρ (k k' : Cs → Prop), (∀ ρ', k ρ' → k' ρ') → mg d ρ k → mg d ρ k'
  run : ∀ (σ : L2.St) (G H : Hp) (ρ : Cs) (vs : List V) (ds : List D) (Q : L2.St → Hp → Prop), Rel K σ G H ρ → RpAll K G vs ds → mg ds ρ (fun ρ' => ∀ σ', Rel K σ' G H ρ' → Lk n σ G H ρ σ' G H ρ' → Ch ts σ σ' → Q σ' H) → g vs σ H Q
def mgName (i : Nat) : MG := fun d ρ k => k (ρ.set i (.fro d))
def mgNil : MGs := fun ds ρ k => match ds with
  | [] => k ρ
  | _ => False
def mgCons (g : MG) (gs : MGs) : MGs := fun ds ρ k => match ds with
  | d :: r => g d ρ fun ρ1 => gs r ρ1 k
  | [] => False
def mgTup (l : Nat) (gs : MGs) : MG := fun d ρ k => match d with
  | .tuple _ ds => ds.length = l ∧ gs ds ρ k
  | _ => False
theorem sg_name {i : Nat} (hn : n ≤ i) : SG K n [i] (gName i) (mgName i) := ⟨fun d ρ k k' w => w _, fun σ G H ρ v d Q R r q => q _ (R.set r) (Lk.refl.set R.len hn) ⟨List.length_set, fun j hj => set_ne (fun z => hj (by rw [z]; exact List.mem_singleton.mpr rfl))⟩⟩
theorem sgs_nil : SGs K n [] gNil mgNil := by
  constructor
  · intro d ρ k k' w
    cases d
    · exact w _
    · exact id
  · intro σ G H ρ vs ds Q R r q
    cases r
    · exact ⟨rfl, q σ R .refl .refl⟩
    · exact q.elim
theorem sgs_cons {g : TG} {gs : TGs} {mg : MG} {mgs : MGs} {ts us : List Nat} (h : SG K n ts g mg) (hs : SGs K n us gs mgs) : SGs K n (ts ++ us) (gCons g gs) (mgCons mg mgs) := by
  constructor
  · intro d ρ k k' w
    cases d
    · exact id
    · exact h.mono _ _ _ _ fun ρ1 => hs.mono _ _ _ _ w
  · intro σ G H ρ vs ds Q R r q
    cases r with
    | nil => exact q.elim
    | cons r rs =>
      refine ⟨_, _, rfl, h.run σ G H ρ _ _ _ R r (h.mono _ _ _ _ (fun ρ1 q σ1 R1 l1 c1 => ?_) q)⟩
      exact hs.run σ1 G H ρ1 _ _ Q R1 rs (hs.mono _ _ _ _ (fun ρ2 q σ2 R2 l2 c2 => q σ2 R2 (l1.trans l2) ⟨c2.1.trans c1.1, fun j hj => (c2.2 j fun z => hj (List.mem_append_right _ z)).trans (c1.2 j fun z => hj (List.mem_append_left _ z))⟩) q)
theorem sg_tup {gs : TGs} {mgs : MGs} {l : Nat} {ts : List Nat} (hs : SGs K n ts gs mgs) : SG K n ts (gTup K l gs) (mgTup l mgs) := by
  constructor
  · intro d ρ k k' w
    cases d <;> first | exact id | exact fun q => ⟨q.1, hs.mono _ _ _ _ w q.2⟩
  · intro σ G H ρ v d Q R r q
    cases d <;> first | exact q.elim | skip
    obtain ⟨p, xs, rfl, s, a, _⟩ := rp_tup r
    exact ⟨_, _, rfl, sqT_same R.gh s, by rw [rps_len a]; exact q.1, hs.run σ G H ρ _ _ Q R a q.2⟩
def sAsg (m : ME) (g : MG) : MS := fun E ρ => m ρ fun d ρ1 => g d ρ1 E.nx
theorem ss_asg {tg : Expr} {g : TG} {mg : MG} {ts : List Nat} (h : SE K (fE K) X e m) (hg : PG X tg g) (sg : SG K n ts g mg) (hs : swapsWithSole [tg] e pos.line X.env = pure false := by rfl) (hw : swappedStores [tg] e X.env = pure none := by rfl)
    (h1 : (assignEach [tg] X.env).map (·.2) = [assign tg X.env] := by rfl) : SS K n X (.Assign [tg] e pos) (sAsg m mg) :=
  ⟨fun ρ E E' a _ _ _ => h.mono ρ _ _ fun _ ρ1 => sg.mono _ _ _ _ a, ps_weak (ps_asg h.pe hg hs hw h1) fun T σ H ⟨G, ρ, E, R, q, a, _⟩ => ⟨G, ρ, R, h.mono ρ _ _ (fun d ρ1 q v G1 H1 R1 l r =>
    sg.run σ G1 H1 ρ1 v d _ R1 r (sg.mono _ _ _ _ (fun ρ2 q σ2 R2 l2 _ => a σ2 G1 H1 ρ2 R2 (l.up.trans l2) q) q)) q⟩⟩
/-! while -/
def sWhile (t : MT) (b : MS) : MS := fun E ρ => ∃ I : Nat → Cs → Prop, (∃ k, I k ρ) ∧ ∀ k ρ, I k ρ → t ρ fun c ρ1 => if c = true then b { E with nx := fun ρ' => ∃ k', k' < k ∧ I k' ρ', ct := fun ρ' => ∃ k', k' < k ∧ I k' ρ', bk := E.nx } ρ1 else E.nx ρ1
theorem ss_while {body : List Stmt} (hp : PassesOwn (model X.prog X.w) X.A X.env X.xe) (hc : ST K X c tm) (hb : SB K n X body ms) : SS K n X (.While c body [] pos) (sWhile tm ms) := by
  constructor
  · rintro ρ E E' a b c d ⟨I, h0, h⟩
    refine ⟨I, h0, fun k ρ hI => hc.mono ρ _ _ (fun t ρ1 q => ?_) (h k ρ hI)⟩
    cases t
    · exact a _ q
    · exact hb.mono ρ1 { E with nx := fun ρ' => ∃ k', k' < k ∧ I k' ρ', ct := fun ρ' => ∃ k', k' < k ∧ I k' ρ', bk := E.nx } _ (fun _ z => z) b a (fun _ z => z) q
  · refine ps_weak (ps_while hp hc.pt hb.ps) fun T σ H ⟨G, ρ, E, R, ⟨I, ⟨k0, h0⟩, h⟩, a, b, c, d⟩ => ?_
    refine ⟨fun k σ' H' => ∃ G' ρ', Rel K σ' G' H' ρ' ∧ Lk n σ G H ρ σ' G' H' ρ' ∧ I k ρ', ⟨k0, G, ρ, R, .refl, h0⟩, ?_⟩
    rintro k σ1 H1 ⟨G1, ρ1, R1, l1, hI⟩
    refine ⟨G1, ρ1, R1, hc.mono ρ1 _ _ (fun t ρ2 q G2 H2 R2 l2 => ?_) (h k ρ1 hI)⟩
    have l2 := l1.trans l2.up
    cases t
    · exact a σ1 G2 H2 ρ2 R2 l2 q
    · refine ⟨_, fun σ' H' z => z, G2, ρ2, _, R2, q, ?_, ?_, ?_, ?_⟩
      · exact fun σ3 G3 H3 ρ3 R3 l3 ⟨k', hk, hI'⟩ => ⟨k', hk, G3, ρ3, R3, l2.trans l3, hI'⟩
      · exact fun v d σ3 G3 H3 ρ3 R3 l3 => b v d σ3 G3 H3 ρ3 R3 (l2.trans l3)
      · exact fun σ3 G3 H3 ρ3 R3 l3 => a σ3 G3 H3 ρ3 R3 (l2.trans l3)
      · exact fun σ3 G3 H3 ρ3 R3 l3 ⟨k', hk, hI'⟩ => ⟨k', hk, G3, ρ3, R3, l2.trans l3, hI'⟩
/-! what is walked -/
/-- J walks the data xs while G' stands -/
def Wk (K : PySem.W.Frag) (J : It) (G : Hp) (xs : List D) : Prop := ∀ G' H', Same G G' → Same G' H' → (∀ i, i < xs.length → J.go i H') ∧ J.stop xs.length H' ∧
  ∀ i x H3, i < xs.length → J.yld i H' x H3 → ∃ G3 d, Same G3 H3 ∧ Stp Pure G' H' G3 H3 ∧ xs[i]? = some d ∧ Rp K G3 x d
abbrev MI := Cs → (List D → Cs → Prop) → Prop
def tI (K : PySem.W.Frag) (m : MI) : TI := fun σ H R => ∃ G ρ, Rel K σ G H ρ ∧ m ρ fun xs ρ' => ∀ J G' H', Rel K σ G' H' ρ' → Lk 0 σ G H ρ σ G' H' ρ' → Wk K J G' xs → R J H'
structure SI (K : PySem.W.Frag) (X : Cx) (tg iter : Expr) (m : MI) : Prop where
  mono : Mo m
  pi : PI X tg iter (tI K m)
theorem pi_weak {tg iter : Expr} {t t' : TI} (h : PI X tg iter t) (w : ∀ σ H R, t' σ H R → t σ H R) : PI X tg iter t' := ⟨fun pins s σ H R I q => h.run pins s σ H R I (w σ H R q)⟩
def mItems (f : D → Option (List D)) (m : ME) : MI := fun ρ k => m ρ fun d ρ1 => match f d with
  | some xs => k xs ρ1
  | none => False
theorem mo_items {f : D → Option (List D)} (h : Mo m) : Mo (mItems f m) := fun ρ k k' w => h ρ _ _ fun d ρ1 => by
  cases f d with
  | none => exact id
  | some xs => exact w _ _
def dLst : D → Option (List D)
  | .list xs => some xs
  | _ => none
def dTup : D → Option (List D)
  | .tuple _ xs => some xs
  | _ => none
theorem rps_get {G : Hp} : ∀ {vs : List V} {ds : List D} {i : Nat} {v : V}, RpAll K G vs ds → vs[i]? = some v → ∃ d, ds[i]? = some d ∧ Rp K G v d
  | _, _, _, _, .nil, h => by cases h
  | _, _, 0, _, .cons r _, h => by cases h; exact ⟨_, rfl, r⟩
  | _, _, i + 1, _, .cons _ rs, h => rps_get (i := i) rs h
theorem rps_get' {G : Hp} : ∀ {vs : List V} {ds : List D} {i : Nat} {d : D}, RpAll K G vs ds → ds[i]? = some d → ∃ v, vs[i]? = some v ∧ Rp K G v d
  | _, _, _, _, .nil, h => by cases h
  | _, _, 0, _, .cons r _, h => by cases h; exact ⟨_, rfl, r⟩
  | _, _, i + 1, _, .cons _ rs, h => rps_get' (i := i) rs h
theorem si_list {tg : Expr} (h : SE K (fE K) X e m) (hK : X.K = K) : SI K X tg e (mItems dLst m) := by
  refine ⟨mo_items h.mono, pi_weak (pi_list h.pe) fun σ H Q ⟨G, ρ, R, q⟩ => ⟨G, ρ, R, h.mono ρ _ _ (fun d ρ1 q v G1 H1 R1 l r => ?_) q⟩⟩
  subst hK
  cases d <;> first | exact q.elim | skip
  cases r with
  | lst s a =>
    refine ⟨_, rfl, ⟨_, .inl (rd_same R1.gh s)⟩, q _ G1 H1 R1 l fun G2 H2 g gh => ?_⟩
    have W := walk_list (K := X.K) (a := ‹Addr›) (xs := ‹List V›)
    have sh := gh
    have s2 : SqL X.K H2 ‹Addr› ‹List V› := .inl (rd_same gh (rd_same g s))
    have ln := rps_len a
    refine ⟨fun i hi => W.goes i H2 (by omega) s2, ln ▸ W.stops H2 s2, fun i x H3 hi y => ?_⟩
    obtain ⟨rfl, hx⟩ := W.yields i H2 x H3 (by omega) s2 y
    obtain ⟨d, hd, rd⟩ := rps_get a hx
    exact ⟨G2, d, gh, .refl, hd, rp_same g rd⟩
theorem si_tup {tg : Expr} (h : SE K (fE K) X e m) (hK : X.K = K) : SI K X tg e (mItems dTup m) := by
  refine ⟨mo_items h.mono, pi_weak (pi_tup h.pe) fun σ H Q ⟨G, ρ, R, q⟩ => ⟨G, ρ, R, h.mono ρ _ _ (fun d ρ1 q v G1 H1 R1 l r => ?_) q⟩⟩
  subst hK
  cases d <;> first | exact q.elim | skip
  obtain ⟨p, xs, rfl, s, a, _⟩ := rp_tup r
  refine ⟨_, rfl, ⟨_, sqT_same R1.gh s⟩, q _ G1 H1 R1 l fun G2 H2 g gh => ?_⟩
  have W := walk_tup (K := X.K) (a := p) (xs := xs)
  have s2 := sqT_same gh (sqT_same g s)
  have ln := rps_len a
  refine ⟨fun i hi => W.goes i H2 (by omega) s2, ln ▸ W.stops H2 s2, fun i x H3 hi y => ?_⟩
  obtain ⟨rfl, hx⟩ := W.yields i H2 x H3 (by omega) s2 y
  obtain ⟨d, hd, rd⟩ := rps_get a hx
  exact ⟨G2, d, gh, .refl, hd, rp_same g rd⟩
/-! for -/
def sForL (mg : MG) (b : MS) (E : Dn) : List D → Cs → Prop
  | [], ρ => E.nx ρ
  | x :: r, ρ => mg x ρ fun ρ1 => b { E with nx := sForL mg b E r, ct := sForL mg b E r, bk := E.nx } ρ1
def sFor (mi : MI) (mg : MG) (b : MS) : MS := fun E ρ => mi ρ fun xs ρ1 => sForL mg b E xs ρ1
theorem mos_forL {mg : MG} {g : TG} {ts : List Nat} (sg : SG K n ts g mg) (hb : MoS ms) {E E' : Dn} (a : ∀ ρ', E.nx ρ' → E'.nx ρ') (b : ∀ d ρ', E.rt d ρ' → E'.rt d ρ') : ∀ (xs : List D) (ρ : Cs), sForL mg ms E xs ρ → sForL mg ms E' xs ρ
  | [], ρ, h => a ρ h
  | x :: r, ρ, h => sg.mono _ _ _ _ (fun ρ1 => hb ρ1 { E with nx := sForL mg ms E r, ct := sForL mg ms E r, bk := E.nx } _ (mos_forL sg hb a b r) b a (mos_forL sg hb a b r)) h
theorem ss_for {tg iter : Expr} {body : List Stmt} {mi : MI} {g : TG} {mg : MG} {ts : List Nat} (hp : PassesOwn (model X.prog X.w) X.A X.env X.xe) (hc : X.calm = true) (hi : SI K X tg iter mi) (hg : PG X tg g) (sg : SG K n ts g mg) (hb : SB K n X body ms)
    (hs : ∀ x, foldedSetIterable iter X.env x = pure x := by intro _; rfl) : SS K n X (.For tg iter body [] pos) (sFor mi mg ms) := by
  refine ⟨fun ρ E E' a b _ _ => hi.mono ρ _ _ fun xs ρ1 => mos_forL sg hb.mono a b xs ρ1, ps_weak (ps_for hp hc hi.pi hg hb.ps hs) fun T σ H ⟨G, ρ, E, R, q, a, b, c, d⟩ => ⟨G, ρ, R, hi.mono ρ _ _ (fun xs ρ1 q J G1 H1 R1 l1 wk => ?_) q⟩⟩
  have l1 := l1.up (n := n)
  refine ⟨fun i k σ' H' => k = xs.length - i ∧ i ≤ xs.length ∧ ∃ G' ρ', Rel K σ' G' H' ρ' ∧ Same G1 G' ∧ Lk n σ G H ρ σ' G' H' ρ' ∧ sForL mg ms E (xs.drop i) ρ', ⟨_, rfl, Nat.zero_le _, G1, ρ1, R1, .refl _, l1, q⟩, ?_⟩
  rintro i k σ2 H2 ⟨rfl, hle, G2, ρ2, R2, g2, l2, q2⟩
  obtain ⟨w1, w2, w3⟩ := wk G2 H2 g2 R2.gh
  by_cases hlt : i < xs.length
  · refine .inr ⟨w1 i hlt, fun σ' H' => ∃ G' ρ', Rel K σ' G' H' ρ' ∧ Same G1 G' ∧ Lk n σ G H ρ σ' G' H' ρ' ∧ sForL mg ms E (xs.drop (i + 1)) ρ', fun σ' H' z => ⟨xs.length - (i + 1), by omega, rfl, hlt, z⟩, fun x H3 y => ?_⟩
    obtain ⟨G3, dx, gh3, st3, hx, rx⟩ := w3 i x H3 hlt y
    have R3 := R2.pure st3 gh3
    have l3 := l2.trans (Lk.pure (n := n) (ρ := ρ2) (σ := σ2) st3)
    have e : xs.drop i = dx :: xs.drop (i + 1) := by
      rw [List.drop_eq_getElem_cons hlt]
      rw [List.getElem?_eq_getElem hlt] at hx
      rw [Option.some.inj hx]
    rw [e] at q2
    refine sg.run σ2 G3 H3 ρ2 x dx _ R3 rx (sg.mono _ _ _ _ (fun ρ4 q4 σ4 R4 l4 _ => ?_) q2)
    have l4 := l3.trans l4
    refine ⟨G3, ρ4, _, R4, q4, ?_, ?_, ?_, ?_⟩
    · exact fun σ5 G5 H5 ρ5 R5 l5 q5 => ⟨G5, ρ5, R5, (g2.trans st3.gg).trans l5.st.gg, l4.trans l5, q5⟩
    · exact fun v d σ5 G5 H5 ρ5 R5 l5 => b v d σ5 G5 H5 ρ5 R5 (l4.trans l5)
    · exact fun σ5 G5 H5 ρ5 R5 l5 => a σ5 G5 H5 ρ5 R5 (l4.trans l5)
    · exact fun σ5 G5 H5 ρ5 R5 l5 q5 => ⟨G5, ρ5, R5, (g2.trans st3.gg).trans l5.st.gg, l4.trans l5, q5⟩
  · have e : i = xs.length := by omega
    subst e
    rw [List.drop_length] at q2
    exact .inl ⟨w2, a σ2 G2 H2 ρ2 R2 l2 q2⟩
end
end Dl

set_option Elab.async false
set_option linter.all false
set_option maxRecDepth 100000
set_option maxHeartbeats 4000000
namespace Dl
open PySem PySem.Spec PyProof.Rows L2
/-! ### comprehensions -/
def wipeC (ρ : Cs) : List Nat → Cs
  | [] => ρ
  | v :: vs => (wipeC ρ vs).set v .un
section
variable {K : PySem.W.Frag}
theorem Rel.un {σ : L2.St} {G H : Hp} {ρ : Cs} {i : Nat} (R : Rel K σ G H ρ) : Rel K (σ.set i none) G H (ρ.set i .un) := by
  refine ⟨R.gh, by rw [List.length_set, List.length_set]; exact R.len, fun j c q => ?_, fun j c q => ?_, fun j l a c c' q q' h h' => ?_⟩
  · rcases set_get q with ⟨_, _, z⟩ | ⟨ne, z⟩
    · cases z
    · rw [set_ne ne]; exact R.fro j c z
  · rcases set_get q with ⟨_, _, z⟩ | ⟨ne, z⟩
    · cases z
    · rw [set_ne ne]; exact R.own j c z
  · rcases set_get q with ⟨_, _, z⟩ | ⟨ne, z⟩
    · cases z
    · rcases set_get q' with ⟨_, _, z'⟩ | ⟨ne', z'⟩
      · cases z'
      · rw [set_ne ne] at h
        rw [set_ne ne'] at h'
        exact R.apart j l a c c' z z' h h'
theorem Rel.wipe {σ : L2.St} {G H : Hp} {ρ : Cs} (R : Rel K σ G H ρ) : ∀ vs : List Nat, Rel K (wipe σ vs) G H (wipeC ρ vs)
  | [] => R
  | v :: vs => (R.wipe vs).un
theorem ow_un {σ : L2.St} {ρ : Cs} {i : Nat} {p : Addr} (w : Ow (σ.set i none) (ρ.set i .un) p) : Ow σ ρ p := by
  obtain ⟨j, d, h1, h2⟩ := w
  rcases set_get h1 with ⟨_, _, z⟩ | ⟨ne, z⟩
  · cases z
  · rw [set_ne ne] at h2
    exact ⟨j, d, z, h2⟩
theorem ow_wipe {σ : L2.St} {ρ : Cs} {p : Addr} : ∀ {vs : List Nat}, Ow (wipe σ vs) (wipeC ρ vs) p → Ow σ ρ p
  | [], w => w
  | _ :: vs, w => ow_wipe (vs := vs) (ow_un w)
theorem Lk.wipe {σ0 σ : L2.St} {G0 H0 G H : Hp} {ρ0 ρ : Cs} (l : Lk 0 σ0 G0 H0 ρ0 σ G H ρ) (vs : List Nat) : Lk 0 σ0 G0 H0 ρ0 (wipe σ vs) G H (wipeC ρ vs) :=
  ⟨l.st, fun p w => l.sb p (ow_wipe w), fun _ h => absurd h (Nat.not_lt_zero _)⟩
/-- back from the block -/
theorem Rel.unwipe {σ : L2.St} {G H : Hp} {ρ : Cs} {vs : List Nat} (R : Rel K (L2.wipe σ vs) G H ρ) : Rel K σ G H ρ ∧ ∀ p, Ow σ ρ p → Ow (L2.wipe σ vs) ρ p := by
  have back : ∀ (i : Nat) (v : V), (L2.wipe σ vs)[i]? = some (some v) → σ[i]? = some (some v) := fun i v h => (wipe_some h).1
  refine ⟨⟨R.gh, by rw [← R.len, wipe_length], fun i d e => ?_, fun i d e => ?_, fun i j p d e h h' q q' => ?_⟩, fun p ⟨i, d, h1, h2⟩ => ?_⟩
  · obtain ⟨v, h, r⟩ := R.fro i d e
    exact ⟨v, back i v h, r⟩
  · obtain ⟨p, o, h, r⟩ := R.own i d e
    exact ⟨p, o, back i _ h, r⟩
  · obtain ⟨p1, o1, z1, _⟩ := R.own i d h
    obtain ⟨p2, o2, z2, _⟩ := R.own j e h'
    have e1 := back i _ z1
    have e2 := back j _ z2
    rw [q] at e1
    rw [q'] at e2
    cases e1
    cases e2
    exact R.apart i j p d e h h' z1 z2
  · obtain ⟨p1, o1, z1, _⟩ := R.own i d h1
    have e1 := back i _ z1
    rw [h2] at e1
    cases e1
    exact ⟨i, d, h1, z1⟩
theorem Rel.poke {σ : L2.St} {G H : Hp} {ρ : Cs} {p : Addr} {o : HO} (R : Rel K σ G H ρ) (gp : G p = none) (nw : ¬ Ow σ ρ p) : Rel K σ G (upd H p o) ρ := by
  refine ⟨fun b u e => (upd_ne (ne_of_none e gp)).trans (R.gh b u e), R.len, R.fro, fun i d e => ?_, R.apart⟩
  obtain ⟨q, u, h, hq, r⟩ := R.own i d e
  exact ⟨q, u, h, (upd_ne (fun z => nw (by subst z; exact ⟨i, d, e, h⟩))).trans hq, r⟩
theorem Lk.poke {n : Nat} {σ0 σ : L2.St} {G0 H0 G H : Hp} {ρ0 ρ : Cs} {p : Addr} {o : HO} (l : Lk n σ0 G0 H0 ρ0 σ G H ρ) (h0 : H0 p = none) : Lk n σ0 G0 H0 ρ0 σ G (upd H p o) ρ :=
  ⟨⟨l.st.gg, fun a u m e => (upd_ne (ne_of_none e h0)).trans (l.st.hh a u m e), l.st.fr, fun a e => by
    by_cases q : a = p
    · subst q; exact h0
    · rw [upd_ne q] at e; exact l.st.dom a e⟩, l.sb, l.pn⟩
theorem wipe_get {σ : L2.St} {j : Nat} : ∀ {vs : List Nat}, j ∉ vs → (wipe σ vs)[j]? = σ[j]?
  | [], _ => rfl
  | v :: vs, h => by
    unfold wipe
    rw [set_ne (fun z => h (by rw [z]; exact List.mem_cons_self))]
    exact wipe_get fun z => h (List.mem_cons_of_mem _ z)
theorem wipe_un {σ : L2.St} {j : Nat} : ∀ {vs : List Nat}, j ∈ vs → j < σ.length → (wipe σ vs)[j]? = some none
  | v :: vs, h, hl => by
    unfold wipe
    by_cases e : j = v
    · subst e
      exact List.getElem?_set_self (by rw [wipe_length]; exact hl)
    · rw [set_ne e]
      exact wipe_un ((List.mem_cons.mp h).resolve_left e) hl
theorem Ch.wipe {ts vs : List Nat} {σ σ' : L2.St} (c : Ch ts σ σ') (h : ∀ t ∈ ts, t ∈ vs) : L2.wipe σ' vs = L2.wipe σ vs := by
  apply List.ext_getElem?
  intro j
  by_cases hj : j ∈ vs
  · by_cases hl : j < σ.length
    · rw [wipe_un hj hl, wipe_un hj (by rw [c.1]; exact hl)]
    · rw [List.getElem?_eq_none (by rw [wipe_length, c.1]; omega), List.getElem?_eq_none (by rw [wipe_length]; omega)]
  · rw [wipe_get hj, wipe_get hj]
    exact c.2 j fun z => hj (h j z)
theorem wipe_wipe {σ : L2.St} {vs : List Nat} : wipe (wipe σ vs) vs = wipe σ vs :=
  Ch.wipe (ts := vs) ⟨wipe_length σ vs, fun j h => wipe_get h⟩ fun _ h => h
def mYes : MT := fun ρ k => k true ρ
structure STs (K : PySem.W.Frag) (X : Cx) (ifs : List Expr) (m : MT) : Prop where
  mono : Mo m
  pts : PTs X ifs (tT K m)
theorem pts_weak {X : Cx} {ifs : List Expr} {t t' : TT} (h : PTs X ifs t) (w : ∀ σ H Q, t' σ H Q → t σ H Q) : PTs X ifs t' := ⟨fun pins s σ H Q I q => h.run pins s σ H Q I (w σ H Q q)⟩
theorem sts_nil {X : Cx} : STs K X [] mYes := ⟨fun _ _ _ w => w _ _, pts_weak pts_nil fun σ H Q ⟨G, ρ, R, q⟩ => q G H R .refl⟩
theorem sts_one {X : Cx} {c : Expr} {m : MT} (h : ST K X c m) : STs K X [c] m := ⟨h.mono, pts_one h.pt⟩
def mLcL (mg : MG) (mt : MT) (me : ME) (vs : List Nat) (k : List D → Cs → Prop) : List D → List D → Cs → Prop
  | [], acc, ρ => k acc ρ
  | x :: r, acc, ρ => mg x ρ fun ρ1 => mt ρ1 fun b ρ2 => if b = true then me ρ2 fun d ρ3 => mLcL mg mt me vs k r (acc ++ [d]) (wipeC ρ3 vs) else mLcL mg mt me vs k r acc (wipeC ρ2 vs)
def mLc (mi : MI) (mg : MG) (mt : MT) (me : ME) (vs : List Nat) : ME := fun ρ k => mi ρ fun xs ρ1 => xs.length ≤ sizeLine ∧ mLcL mg mt me vs (fun ds ρ2 => k (.list ds) ρ2) xs [] (wipeC ρ1 vs)
theorem mo_lcL {mg : MG} {mt : MT} {me : ME} {vs : List Nat} (hg : ∀ d ρ (k k' : Cs → Prop), (∀ ρ', k ρ' → k' ρ') → mg d ρ k → mg d ρ k') (ht : Mo mt) (he : Mo me) {k k' : List D → Cs → Prop} (w : ∀ d ρ', k d ρ' → k' d ρ') : ∀ (xs acc : List D) (ρ : Cs), mLcL mg mt me vs k xs acc ρ → mLcL mg mt me vs k' xs acc ρ
  | [], acc, ρ, h => w _ _ h
  | x :: r, acc, ρ, h => hg _ _ _ _ (fun ρ1 => ht ρ1 _ _ fun b ρ2 q => by
    cases b
    · exact mo_lcL hg ht he w r acc _ q
    · exact he ρ2 _ _ (fun d ρ3 => mo_lcL hg ht he w r _ _) q) h
variable {X : Cx}
/-- the reading -/
theorem t_lc {wi : MI} {g : TG} {mg : MG} {mt : MT} {me : ME} {vs ts : List Nat} (hi : Mo wi) (sg : SG K 0 ts g mg) (hts : ∀ t ∈ ts, t ∈ vs) (ht : Mo mt) (he : Mo me) (σ : L2.St) (H : Hp) (Q : VK) (h : tE K (fF K) (mLc wi mg mt me vs) σ H Q) :
    tLc (tI K wi) g (tT K mt) (tE K (fE K) me) vs σ H Q := by
  obtain ⟨G, ρ, R, h⟩ := h
  refine ⟨G, ρ, R, hi ρ _ _ (fun xs ρ1 q J G1 H1 R1 l1 wk L hL => ?_) h⟩
  obtain ⟨hsz, q⟩ := q
  have nG : G1 L = none := R1.gh.free hL
  have n0 : H L = none := l1.st.dom L hL
  have nw : ¬ Ow (wipe σ vs) (wipeC ρ1 vs) L := fun w => (R1.wipe vs).old w hL
  refine ⟨fun i k H' => k = xs.length - i ∧ i ≤ xs.length ∧ ∃ G' ρ' acc vacc, Rel K (wipe σ vs) G' H' (wipeC ρ' vs) ∧ Same G1 G' ∧ Lk 0 σ G H ρ (wipe σ vs) G' H' (wipeC ρ' vs) ∧ H' L = some (.lst vacc) ∧ G' L = none ∧ ¬ Ow (wipe σ vs) (wipeC ρ' vs) L ∧ RpAll K G' vacc acc ∧ acc.length ≤ i ∧
    mLcL mg mt me vs (fun ds ρ2 => ∀ v G' H', Rel K σ G' H' ρ2 → Lk 0 σ G H ρ σ G' H' ρ2 → fF K H σ ρ2 G' H' v (.list ds) → Q v H') (xs.drop i) acc (wipeC ρ' vs),
    ⟨_, rfl, Nat.zero_le _, G1, ρ1, [], [], (R1.wipe vs).poke nG nw, .refl _, (l1.wipe vs).poke n0, upd_same, nG, nw, .nil, Nat.zero_le _, q⟩, ?_⟩
  rintro i k H2 ⟨rfl, hle, G2, ρ2, acc, vacc, R2, g2, l2, hL2, nG2, nw2, ra, hacc, q2⟩
  obtain ⟨w1, w2, w3⟩ := wk G2 H2 g2 R2.gh
  by_cases hlt : i < xs.length
  · refine .inr ⟨w1 i hlt, fun H' => ∃ G' ρ' acc vacc, Rel K (wipe σ vs) G' H' (wipeC ρ' vs) ∧ Same G1 G' ∧ Lk 0 σ G H ρ (wipe σ vs) G' H' (wipeC ρ' vs) ∧ H' L = some (.lst vacc) ∧ G' L = none ∧ ¬ Ow (wipe σ vs) (wipeC ρ' vs) L ∧ RpAll K G' vacc acc ∧ acc.length ≤ i + 1 ∧
      mLcL mg mt me vs (fun ds ρ2 => ∀ v G' H', Rel K σ G' H' ρ2 → Lk 0 σ G H ρ σ G' H' ρ2 → fF K H σ ρ2 G' H' v (.list ds) → Q v H') (xs.drop (i + 1)) acc (wipeC ρ' vs), fun H' z => ⟨xs.length - (i + 1), by omega, rfl, hlt, z⟩, fun x H3 y => ?_⟩
    obtain ⟨G3, dx, gh3, st3, hx, rx⟩ := w3 i x H3 hlt y
    have R3 := R2.pure st3 gh3
    have l3 := l2.trans (Lk.pure (n := 0) (ρ := wipeC ρ2 vs) (σ := wipe σ vs) st3)
    have hL3 : H3 L = some (.lst vacc) := st3.hh L _ (fun z => z) hL2
    have nG3 : G3 L = none := st3.fr L _ (fun z => z) hL2 nG2 rfl
    have e : xs.drop i = dx :: xs.drop (i + 1) := by
      rw [List.drop_eq_getElem_cons hlt]
      rw [List.getElem?_eq_getElem hlt] at hx
      rw [Option.some.inj hx]
    rw [e] at q2
    refine sg.run (wipe σ vs) G3 H3 (wipeC ρ2 vs) x dx _ R3 rx (sg.mono _ _ _ _ (fun ρ4 q4 σ4 R4 l4 c4 => ?_) q2)
    have ew : wipe σ4 vs = wipe σ vs := (c4.wipe hts).trans wipe_wipe
    refine ⟨ew, G3, ρ4, R4, ht ρ4 _ _ (fun b ρ5 q5 G5 H5 R5 l5 => ?_) q4⟩
    -- L is no one's
    have own4 : ¬ Ow σ4 ρ4 L := fun w => by
      rcases l4.sb L w with z | z
      · exact nw2 z
      · rw [hL3] at z; cases z
    have hL5 : H5 L = some (.lst vacc) := l5.st.hh L _ own4 hL3
    have nG5 : G5 L = none := l5.st.fr L _ own4 hL3 nG3 rfl
    have l05 := l3.trans (l4.trans l5)
    cases b
    · have z : Lk 0 (wipe σ vs) G3 H3 (wipeC ρ2 vs) (wipe σ4 vs) G5 H5 (wipeC ρ5 vs) := (l4.trans l5).wipe vs
      have RR := R5.wipe vs
      have LL := l05.wipe vs
      rw [ew] at RR LL z
      refine ⟨G5, ρ5, acc, vacc, RR, (g2.trans st3.gg).trans l5.st.gg, LL, hL5, nG5, fun w => ?_, rps_same (st3.gg.trans l5.st.gg) ra, by omega, q5⟩
      rcases z.sb L w with z | z
      · exact nw2 z
      · rw [hL3] at z; cases z
    · refine ⟨G5, ρ5, R5, he ρ5 _ _ (fun d ρ6 q6 v G6 H6 R6 l6 rv => ?_) q5⟩
      have own5 : ¬ Ow σ4 ρ5 L := fun w => by
        rcases l5.sb L w with z | z
        · exact own4 z
        · rw [hL3] at z; cases z
      have hL6 : H6 L = some (.lst vacc) := l6.st.hh L _ own5 hL5
      have nG6 : G6 L = none := l6.st.fr L _ own5 hL5 nG5 rfl
      have la := rps_len ra
      refine ⟨vacc, hL6, by omega, ?_⟩
      have z : Lk 0 (wipe σ vs) G3 H3 (wipeC ρ2 vs) (wipe σ4 vs) G6 H6 (wipeC ρ6 vs) := ((l4.trans l5).trans l6).wipe vs
      have RR := R6.wipe vs
      have LL := (l05.trans l6).wipe vs
      rw [ew] at RR LL z
      have nw6 : ¬ Ow (wipe σ vs) (wipeC ρ6 vs) L := fun w => by
        rcases z.sb L w with z | z
        · exact nw2 z
        · rw [hL3] at z; cases z
      have app : ∀ {vs : List V} {ds : List D} {v : V} {d : D}, RpAll K G6 vs ds → Rp K G6 v d → RpAll K G6 (vs ++ [v]) (ds ++ [d]) := by
        intro vs
        induction vs with
        | nil =>
          intro ds v d a b
          cases a
          exact .cons b .nil
        | cons x r ih =>
          intro ds v d a b
          cases a with
          | cons a1 a2 => exact .cons a1 (ih a2 b)
      refine ⟨G6, ρ6, acc ++ [d], vacc ++ [v], RR.poke nG6 nw6, ((g2.trans st3.gg).trans l5.st.gg).trans l6.st.gg, LL.poke n0, upd_same, nG6, nw6, app (rps_same ((st3.gg.trans l5.st.gg).trans l6.st.gg) ra) rv, by simp; omega, q6⟩
  · have e : i = xs.length := by omega
    subst e
    rw [List.drop_length] at q2
    obtain ⟨Rf, of⟩ := R2.unwipe
    exact .inl ⟨w2, q2 _ G2 H2 Rf ⟨l2.st, fun p w => l2.sb p (of p w), fun _ h => absurd h (Nat.not_lt_zero _)⟩ ⟨L, _, rfl, n0, fun w => nw2 (of L w), hL2, nG2, .lst ra⟩⟩
end
end Dl

set_option Elab.async false
set_option linter.all false
set_option maxRecDepth 100000
set_option maxHeartbeats 4000000
namespace Dl
open PySem PySem.Spec PyProof.Rows L2 Br
section
variable {K : PySem.W.Frag} {X : Cx}
/-- [elt for target in iter if ..] -/
theorem se_lc {elt tg iter : Expr} {ifs : List Expr} {scope : Scope} {own : List (Str × Nat)} {pos : Pos} {wi : MI} {g : TG} {mg : MG} {mt : MT} {me : ME} {ts : List Nat} (hc : X.calm = true) (hN : X.N.Nodup) (hi : SI K X tg iter wi) (ok : BlkOk X.N X.env.scope scope own)
    (hg : ∀ (s : Shared) (H : Hp) (C : Addr) (cl : List (Str × Addr)) (fp : List Addr), PG (X.blk s H scope (compEnvC scope cl C X.env) fp) tg g) (sg : SG K 0 ts g mg) (hts : ∀ t ∈ ts, t ∈ own.map (·.2))
    (ht : ∀ (s : Shared) (H : Hp) (C : Addr) (cl : List (Str × Addr)) (fp : List Addr), STs K (X.blk s H scope (compEnvC scope cl C X.env) fp) ifs mt)
    (he : ∀ (s : Shared) (H : Hp) (C : Addr) (cl : List (Str × Addr)) (fp : List Addr), SE K (fE K) (X.blk s H scope (compEnvC scope cl C X.env) fp) elt me) (hs : ∀ x, foldedSetIterable iter X.env x = pure x := by intro _; rfl) :
    SE K (fF K) X (.ListComp elt [⟨tg, iter, ifs, 0⟩] scope pos) (mLc wi mg mt me (own.map (·.2))) :=
  have mt' := (ht X.s_0 X.H_0 0 [] []).mono
  have me' := (he X.s_0 X.H_0 0 [] []).mono
  ⟨fun ρ k k' w => hi.mono ρ _ _ fun xs ρ1 q => ⟨q.1, mo_lcL sg.mono mt' me' (fun ds ρ2 => w _ ρ2) xs [] _ q.2⟩,
    pe_weak (pe_lc hc hN hi.pi ok hg (fun s H C cl fp => (ht s H C cl fp).pts) (fun s H C cl fp => (he s H C cl fp).pe) hs) (t_lc hi.mono sg hts mt' me')⟩
/-- name = [..] on one line -/
theorem ss_setLc {n i : Nat} {y : Str} {py : Pos} {elt tg iter : Expr} {ifs : List Expr} {scope : Scope} {own : List (Str × Nat)} {pos spos : Pos} {wi : MI} {g : TG} {mg : MG} {mt : MT} {me : ME} {ts : List Nat} (hn : n ≤ i) (hc : X.calm = true) (hN : X.N.Nodup) (hy : X.N[i]? = some y) (hyl : X.env.scope.names.lookup y = some .local)
    (hsw : swapsWith (.ListComp elt [⟨tg, iter, ifs, 0⟩] scope pos) (some (.Name y py)) spos.line X.env = pure true) (hi : SI K X tg iter wi) (ok : BlkOk X.N X.env.scope scope own)
    (hg : ∀ (s : Shared) (H : Hp) (C : Addr) (cl : List (Str × Addr)) (fp : List Addr), PG (X.blk s H scope (compEnvC scope cl C X.env) fp) tg g) (sg : SG K 0 ts g mg) (hts : ∀ t ∈ ts, t ∈ own.map (·.2))
    (ht : ∀ (s : Shared) (H : Hp) (C : Addr) (cl : List (Str × Addr)) (fp : List Addr), STs K (X.blk s H scope (compEnvC scope cl C X.env) fp) ifs mt)
    (he : ∀ (s : Shared) (H : Hp) (C : Addr) (cl : List (Str × Addr)) (fp : List Addr), SE K (fE K) (X.blk s H scope (compEnvC scope cl C X.env) fp) elt me) (hs : ∀ x, foldedSetIterable iter X.env x = pure x := by intro _; rfl) :
    SS K n X (.Assign [.Name y py] (.ListComp elt [⟨tg, iter, ifs, 0⟩] scope pos) spos) (sSetO i (mLc wi mg mt me (own.map (·.2)))) := by
  have mt' := (ht X.s_0 X.H_0 0 [] []).mono
  have me' := (he X.s_0 X.H_0 0 [] []).mono
  have mo : Mo (mLc wi mg mt me (own.map (·.2))) := fun ρ k k' w => hi.mono ρ _ _ fun xs ρ1 q => ⟨q.1, mo_lcL sg.mono mt' me' (fun ds ρ2 => w _ ρ2) xs [] _ q.2⟩
  refine ⟨fun ρ E E' a _ _ _ => mo ρ _ _ fun _ ρ1 => a _, ps_weak (ps_setLc hc hN hy hyl hsw hi.pi ok hg (fun s H C cl fp => (ht s H C cl fp).pts) (fun s H C cl fp => (he s H C cl fp).pe) hs) fun T σ H ⟨G, ρ, E, R, q, a, _⟩ => ?_⟩
  refine t_lc hi.mono sg hts mt' me' σ H _ ⟨G, ρ, R, mo ρ _ _ (fun d ρ1 q v G1 H1 R1 l r => ?_) q⟩
  obtain ⟨p, o, rfl, h0, nw, hp, gp, ob⟩ := r
  exact a _ G1 H1 _ (R1.setO hp gp nw ob) (l.up.setO R1.len hn h0) q
/-- an owned local is as good as a given one, once it is given away: name = [..] for a name that is only read -/
def mFro (i : Nat) (m : MS) : MS := fun E ρ => m { E with nx := fun ρ1 => mFrz i ρ1 fun _ ρ2 => E.nx ρ2 } ρ
theorem mo_frz {i : Nat} : Mo (mFrz i) := by
  intro ρ k k' h
  unfold mFrz
  split
  · exact h _ _
  · exact h _ _
  · exact id
/-- what a given-away slot leaves -/
theorem frz_run {n i : Nat} {σ : L2.St} {G H : Hp} {ρ : Cs} {k : D → Cs → Prop} (R : Rel K σ G H ρ) (h : mFrz i ρ k) : ∃ d G' ρ', Rel K σ G' H ρ' ∧ Lk n σ G H ρ σ G' H ρ' ∧ k d ρ' := by
  unfold mFrz at h
  split at h
  · rename_i d e
    obtain ⟨p, o, hv, hp, gp, r⟩ := R.own i d e
    have sg := same_upd (o := o) gp
    refine ⟨d, upd G p o, _, ⟨same_put R.gh hp, by rw [List.length_set]; exact R.len, fun j c q => ?_, fun j c q => ?_, fun j l a c c' q q' => ?_⟩, ⟨⟨sg, fun _ _ _ h => h, fun a u n e1 g t => ?_, fun _ h => h⟩, (fun q w => ?_), fun _ _ => rfl⟩, h⟩
    · rcases set_get q with ⟨rfl, _, z⟩ | ⟨_, z⟩
      · cases z
        exact ⟨_, hv, ob_rp (ob_same sg r) upd_same⟩
      · obtain ⟨v, h1, h2⟩ := R.fro j c z
        exact ⟨v, h1, rp_same sg h2⟩
    · rcases set_get q with ⟨rfl, _, z⟩ | ⟨ne, z⟩
      · cases z
      · obtain ⟨p', o', h1, h2, h3, h4⟩ := R.own j c z
        refine ⟨p', o', h1, h2, ?_, ob_same sg h4⟩
        rw [upd_ne (fun w => by subst w; exact ne (R.apart j i p' c d z e h1 hv))]
        exact h3
    · rcases set_get q with ⟨_, _, z⟩ | ⟨_, z⟩
      · cases z
      · rcases set_get q' with ⟨_, _, z'⟩ | ⟨_, z'⟩
        · cases z'
        · exact R.apart j l a c c' z z'
    · rw [upd_ne (fun w => by subst w; exact n ⟨i, d, e, hv⟩)]
      exact g
    · obtain ⟨j, c, q1, q2⟩ := w
      rcases set_get q1 with ⟨_, _, z⟩ | ⟨_, z⟩
      · cases z
      · exact .inl ⟨j, c, z, q2⟩
  · rename_i d e
    exact ⟨d, G, ρ, R, .refl, h⟩
  · exact h.elim
theorem SS.fro {n i : Nat} {st : Stmt} {m : MS} (h : SS K n X st m) : SS K n X st (mFro i m) := by
  refine ⟨fun ρ E E' a b c d => h.mono ρ _ _ (fun ρ1 => mo_frz ρ1 _ _ fun _ ρ2 => a ρ2) b c d, ps_weak h.ps fun T σ H ⟨G, ρ, E, R, q, a, b, c, d⟩ => ⟨G, ρ, _, R, q, fun σ1 G1 H1 ρ1 R1 l1 q1 => ?_, b, c, d⟩⟩
  obtain ⟨_, G2, ρ2, R2, l2, q2⟩ := frz_run (n := n) R1 q1
  exact a σ1 G2 H1 ρ2 R2 (l1.trans l2) q2
/-! ### a def, by data -/
abbrev Fs := List Cell → (D → List Cell → Prop) → Prop
def spD (K : PySem.W.Frag) (np n : Nat) (F : Fs) : Sp := fun vs H Q _ => vs.length = np ∧ ∃ G cs, Rel K (vs.map some) G H cs ∧
  F cs fun d cs' => ∀ v G' H', Same G' H' → Rel K ((vs.take n).map some) G' H' cs' → Stp (Ow (vs.map some) cs) G H G' H' → Rp K G' v d → Q v H'
theorem Rel.more {σ : L2.St} {G H : Hp} {ρ : Cs} (R : Rel K σ G H ρ) (k : Nat) : Rel K (σ ++ List.replicate k none) G H (ρ ++ List.replicate k .un) := by
  have one : ∀ {i : Nat} {c : Cell}, c ≠ .un → (ρ ++ List.replicate k .un)[i]? = some c → ρ[i]? = some c ∧ (σ ++ List.replicate k none)[i]? = σ[i]? := by
    intro i c hc h
    by_cases hi : i < ρ.length
    · rw [List.getElem?_append_left hi] at h
      exact ⟨h, List.getElem?_append_left (by rw [R.len]; exact hi)⟩
    · rw [List.getElem?_append_right (by omega)] at h
      rw [List.getElem?_replicate] at h
      split at h
      · cases h; exact (hc rfl).elim
      · cases h
  refine ⟨R.gh, by rw [List.length_append, List.length_append, List.length_replicate, List.length_replicate, R.len], fun i d e => ?_, fun i d e => ?_, fun i j p d e h h' q q' => ?_⟩
  · obtain ⟨a, b⟩ := one (c := .fro d) (by intro z; cases z) e
    rw [b]; exact R.fro i d a
  · obtain ⟨a, b⟩ := one (c := .own d) (by intro z; cases z) e
    rw [b]; exact R.own i d a
  · obtain ⟨a, b⟩ := one (c := .own d) (by intro z; cases z) h
    obtain ⟨a', b'⟩ := one (c := .own e) (by intro z; cases z) h'
    rw [b] at q
    rw [b'] at q'
    exact R.apart i j p d e a a' q q'
theorem Rel.cut {σ : L2.St} {G H : Hp} {ρ : Cs} {n : Nat} {vs : List V} (R : Rel K σ G H ρ) (hn : n ≤ vs.length) (hl : n ≤ σ.length) (h : ∀ i, i < n → σ[i]? = (vs.map some)[i]?) : Rel K ((vs.take n).map some) G H (ρ.take n) := by
  have one : ∀ {i : Nat} {c : Cell}, (ρ.take n)[i]? = some c → ρ[i]? = some c ∧ ((vs.take n).map some)[i]? = σ[i]? := by
    intro i c e
    by_cases hi : i < n
    · rw [List.getElem?_take_of_lt hi] at e
      refine ⟨e, ?_⟩
      rw [h i hi, List.map_take, List.getElem?_take_of_lt hi]
    · rw [List.getElem?_take_eq_none (by omega)] at e
      cases e
  refine ⟨R.gh, by rw [List.length_map, List.length_take, List.length_take, ← R.len]; omega, fun i d e => ?_, fun i d e => ?_, fun i j p d e h h' q q' => ?_⟩
  · obtain ⟨a, b⟩ := one e
    rw [b]; exact R.fro i d a
  · obtain ⟨a, b⟩ := one e
    rw [b]; exact R.own i d a
  · obtain ⟨a, b⟩ := one h
    obtain ⟨a', b'⟩ := one h'
    rw [b] at q
    rw [b'] at q'
    exact R.apart i j p d e a a' q q'
end
section
variable {P : Program} {w : World} {K : PySem.W.Frag} {mg : Str → Option Value} {base : Heap} {k : Nat} {f : Addr} {fd : FuncData} {ps : List Str}
theorem fn_ok {x qual : Str} {st : Stmt} {N : List Str} {n : Nat} {F : Fs} (Fu : Fun K x qual st f fd) (S : FnScope N ps (defScope st)) (hn : n ≤ ps.length)
    (body : ∀ (cdv : Value) (Ar : Around) (out : List PySem.Env) (s0 : Shared) (H : Hp) (E : XK), Bare Ar → Room k (Ar.deeper (envOfC qual (defScope st) s0.heap.objs.size f cdv)) →
      ∃ ms, SB K n (cxOf CX0 P w K mg base N qual (defScope st) f cdv Ar out s0 H E).nox (defBody st) ms ∧
        ∀ cs k, cs.length = ps.length → F cs k → ms { nx := fun ρ' => k .none (ρ'.take n), rt := fun d ρ' => k d (ρ'.take n) } (cs ++ List.replicate (N.length - ps.length) .un)) :
    FnG P w K mg base CX0 (k + 1) f fd ps (spD K ps.length n F) := by
  refine okG Fu S (fun vs H Q E h => h.1) fun cdv Ar out s0 H vs Q E hG hr hsp => ?_
  obtain ⟨ms, sb, hF⟩ := body cdv Ar out s0 H E hG hr
  obtain ⟨hl, G, cs, R, h⟩ := hsp
  have hcl : cs.length = ps.length := by rw [← R.len, List.length_map, hl]
  refine ⟨_, sb.ps, ?_⟩
  have R0 := R.more (N.length - ps.length)
  have e0 : vs.map some ++ List.replicate (N.length - ps.length) none = L2.start N vs := by unfold L2.start; rw [hl]
  rw [e0] at R0
  have st0 : ∀ i, i < n → (L2.start N vs)[i]? = (vs.map some)[i]? := fun i hi => by
    unfold L2.start
    rw [List.getElem?_append_left (by rw [List.length_map]; omega)]
  have ow0 : ∀ p, Ow (L2.start N vs) (cs ++ List.replicate (N.length - ps.length) .un) p → Ow (vs.map some) cs p := by
    rintro p ⟨i, d, h1, h2⟩
    by_cases hi : i < cs.length
    · rw [List.getElem?_append_left hi] at h1
      unfold L2.start at h2
      rw [List.getElem?_append_left (by rw [List.length_map]; omega)] at h2
      exact ⟨i, d, h1, h2⟩
    · rw [List.getElem?_append_right (by omega), List.getElem?_replicate] at h1
      split at h1 <;> cases h1
  have fin : ∀ v d σ' G' H' ρ', Rel K σ' G' H' ρ' → Lk n (L2.start N vs) G H (cs ++ List.replicate (N.length - ps.length) .un) σ' G' H' ρ' → Rp K G' v d →
      (∀ v G' H', Same G' H' → Rel K ((vs.take n).map some) G' H' (ρ'.take n) → Stp (Ow (vs.map some) cs) G H G' H' → Rp K G' v d → Q v H') → Q v H' := fun v d σ' G' H' ρ' R' l r q => by
    have hs : n ≤ σ'.length := by
      by_cases z : n = 0
      · omega
      · have e := (l.pn (n - 1) (by omega)).trans (st0 (n - 1) (by omega))
        have hv : n - 1 < vs.length := by omega
        rw [List.getElem?_map, List.getElem?_eq_getElem hv] at e
        have := (List.getElem?_eq_some_iff.mp e).1
        omega
    exact q v G' H' R'.gh (R'.cut (by omega) hs fun i hi => (l.pn i hi).trans (st0 i hi)) (l.st.weak ow0) r
  exact ⟨G, _, _, R0, hF cs _ hcl h, fun σ' G' H' ρ' R' l q => fin .non .none σ' G' H' ρ' R' l .non q, fun v d σ' G' H' ρ' R' l r q => fin v d σ' G' H' ρ' R' l r q, fun _ _ _ _ _ _ z => z.elim, fun _ _ _ _ _ _ z => z.elim⟩
end
end Dl

set_option Elab.async false
set_option linter.all false
set_option maxRecDepth 100000
set_option maxHeartbeats 4000000
namespace Dl
open PySem PySem.Spec PyProof.Rows L2 Br
/-! ### calls: an argument is data, or an owned one by its slot -/
abbrev Ar := Nat ⊕ D
abbrev MR := Cs → (List Ar → Cs → Prop) → Prop
inductive ArR (K : PySem.W.Frag) (σ : L2.St) (G : Hp) : List V → List Ar → Prop
  | nil : ArR K σ G [] []
  | own {v : V} {j : Nat} {vs : List V} {as : List Ar} : σ[j]? = some (some v) → ArR K σ G vs as → ArR K σ G (v :: vs) (.inl j :: as)
  | val {v : V} {d : D} {vs : List V} {as : List Ar} : Rp K G v d → ArR K σ G vs as → ArR K σ G (v :: vs) (.inr d :: as)
def tR (K : PySem.W.Frag) (m : MR) : TA := fun σ H Q => ∃ G ρ, Rel K σ G H ρ ∧ m ρ fun as ρ' => ∀ vs G' H', Rel K σ G' H' ρ' → Lk 0 σ G H ρ σ G' H' ρ' → ArR K σ G' vs as → Q vs H'
structure SR (K : PySem.W.Frag) (X : Cx) (es : List Expr) (m : MR) : Prop where
  mono : Mo m
  pa : PA X es (tR K m)
def rNil : MR := fun ρ k => k [] ρ
def rCons (m : ME) (r : MR) : MR := fun ρ k => m ρ fun d ρ1 => r ρ1 fun ds ρ2 => k (.inr d :: ds) ρ2
def rOwn (j : Nat) (r : MR) : MR := fun ρ k => mOwn j ρ fun _ _ => r ρ fun ds ρ2 => k (.inl j :: ds) ρ2
section
variable {K : PySem.W.Frag} {X : Cx} {a : Expr} {es : List Expr} {m : ME} {mr : MR}
theorem ar_same {σ : L2.St} {G G' : Hp} (e : Same G G') : ∀ {vs : List V} {as : List Ar}, ArR K σ G vs as → ArR K σ G' vs as
  | _, _, .nil => .nil
  | _, _, .own h r => .own h (ar_same e r)
  | _, _, .val h r => .val (rp_same e h) (ar_same e r)
theorem sr_nil : SR K X [] rNil := ⟨fun ρ k k' w => w _ _, pa_weak pa_nil fun σ H Q ⟨G, ρ, R, q⟩ => q [] G H R .refl .nil⟩
theorem sr_cons (h : SE K (fE K) X a m) (g : SR K X es mr) (hs : starEach (a :: es) X.env = (false, eval a X.env) :: starEach es X.env := by rfl) : SR K X (a :: es) (rCons m mr) :=
  ⟨fun ρ k k' w => h.mono ρ _ _ fun d ρ1 => g.mono ρ1 _ _ fun ds ρ2 => w _ _, pa_weak (pa_cons h.pe g.pa hs) fun σ H Q ⟨G, ρ, R, q⟩ =>
    ⟨G, ρ, R, h.mono ρ _ _ (fun d ρ1 q v G1 H1 R1 l r => ⟨G1, ρ1, R1, g.mono ρ1 _ _ (fun ds ρ2 q vs G2 H2 R2 l2 rs => q _ G2 H2 R2 (l.trans l2) (.val (rp_same l2.st.gg r) rs)) q⟩) q⟩⟩
theorem sr_own {j : Nat} (h : PE X a (tVar j)) (g : SR K X es mr) (hs : starEach (a :: es) X.env = (false, eval a X.env) :: starEach es X.env := by rfl) : SR K X (a :: es) (rOwn j mr) :=
  ⟨fun ρ k k' w => mo_own ρ _ _ fun _ _ => g.mono ρ _ _ fun ds ρ2 => w _ _, pa_weak (pa_cons h g.pa hs) fun σ H Q ⟨G, ρ, R, q⟩ => by
    obtain ⟨x, _, hx, _, q⟩ := own_there R q
    exact ⟨x, hx, G, ρ, R, g.mono ρ _ _ (fun ds ρ2 q vs G2 H2 R2 l2 rs => q _ G2 H2 R2 l2 (.own hx rs)) q⟩⟩
/-- the cells that are handed in -/
def cellsOf (ρ : Cs) : List Ar → Option (List Cell)
  | [] => some []
  | .inl j :: as => match ρ[j]? with
    | some (.own d) => (cellsOf ρ as).map (.own d :: ·)
    | _ => none
  | .inr d :: as => (cellsOf ρ as).map (.fro d :: ·)
def putBack : Cs → List Ar → List Cell → Cs
  | ρ, .inl j :: as, c :: cs => putBack (ρ.set j c) as cs
  | ρ, .inr _ :: as, _ :: cs => putBack ρ as cs
  | ρ, _, _ => ρ
def slotsOf : List Ar → List Nat
  | [] => []
  | .inl j :: as => j :: slotsOf as
  | .inr _ :: as => slotsOf as
def mCall (F : Fs) (n : Nat) (mr : MR) : ME := fun ρ k => mr ρ fun as ρ1 => (slotsOf as).Nodup ∧ slotsOf (as.drop n) = [] ∧ match cellsOf ρ1 as with
  | some cs => F cs fun d cs' => k d (putBack ρ1 as cs')
  | none => False
theorem cells_get {σ : L2.St} {G H : Hp} {ρ : Cs} (R : Rel K σ G H ρ) : ∀ {vs : List V} {as : List Ar} {cs : List Cell}, ArR K σ G vs as → cellsOf ρ as = some cs → cs.length = vs.length ∧ ∀ (i : Nat) (c : Cell), cs[i]? = some c →
    (∃ d v, c = .fro d ∧ as[i]? = some (.inr d) ∧ vs[i]? = some v ∧ Rp K G v d) ∨ (∃ d j v, c = .own d ∧ as[i]? = some (.inl j) ∧ ρ[j]? = some (.own d) ∧ vs[i]? = some v ∧ σ[j]? = some (some v))
  | _, _, _, .nil, h => by
    cases h
    exact ⟨rfl, fun i c e => nomatch e⟩
  | _, _, _, .val (v := v) (d := d) (vs := vs) (as := as) r rs, h => by
    obtain ⟨cs, h1, h2⟩ := Option.map_eq_some_iff.mp (show (cellsOf ρ as).map (.fro d :: ·) = some _ from h)
    subst h2
    obtain ⟨l, ih⟩ := cells_get R rs h1
    refine ⟨congrArg (· + 1) l, fun i c e => ?_⟩
    cases i with
    | zero => cases e; exact .inl ⟨d, v, rfl, rfl, rfl, r⟩
    | succ i => exact ih i c e
  | _, _, _, .own (v := v) (j := j) (vs := vs) (as := as) hv rs, h => by
    unfold cellsOf at h
    split at h
    · rename_i d e
      obtain ⟨cs, h1, h2⟩ := Option.map_eq_some_iff.mp h
      subst h2
      obtain ⟨l, ih⟩ := cells_get R rs h1
      refine ⟨congrArg (· + 1) l, fun i c q => ?_⟩
      cases i with
      | zero => cases q; exact .inr ⟨d, j, v, rfl, rfl, e, rfl, hv⟩
      | succ i => exact ih i c q
    · cases h
theorem mem_slots {j : Nat} : ∀ {as : List Ar} {i : Nat}, as[i]? = some (.inl j) → j ∈ slotsOf as
  | [], _, h => nomatch h
  | .inl _ :: as, 0, h => by cases h; exact List.mem_cons_self
  | .inl _ :: as, i + 1, h => List.mem_cons_of_mem _ (mem_slots (as := as) (i := i) h)
  | .inr _ :: as, 0, h => nomatch h
  | .inr _ :: as, i + 1, h => mem_slots (as := as) (i := i) h
theorem slots_inj {j : Nat} : ∀ {as : List Ar} {i k : Nat}, (slotsOf as).Nodup → as[i]? = some (.inl j) → as[k]? = some (.inl j) → i = k
  | [], _, _, _, h, _ => nomatch h
  | .inl _ :: as, 0, 0, _, _, _ => rfl
  | .inl _ :: as, 0, k + 1, nd, h, h' => by cases h; exact ((List.nodup_cons.mp nd).1 (mem_slots (as := as) (i := k) h')).elim
  | .inl _ :: as, i + 1, 0, nd, h, h' => by cases h'; exact ((List.nodup_cons.mp nd).1 (mem_slots (as := as) (i := i) h)).elim
  | .inl _ :: as, i + 1, k + 1, nd, h, h' => congrArg (· + 1) (slots_inj (as := as) (List.nodup_cons.mp nd).2 h h')
  | .inr _ :: as, 0, _, _, h, _ => nomatch h
  | .inr _ :: as, _, 0, _, _, h' => nomatch h'
  | .inr _ :: as, i + 1, k + 1, nd, h, h' => congrArg (· + 1) (slots_inj (as := as) nd h h')
/-- a slot behind the call -/
theorem pb_get {j : Nat} {c : Cell} : ∀ {as : List Ar} {cs : List Cell} {ρ : Cs}, (slotsOf as).Nodup → (putBack ρ as cs)[j]? = some c →
    (∃ i : Nat, as[i]? = some (Sum.inl j) ∧ cs[i]? = some c) ∨ (ρ[j]? = some c ∧ ∀ i : Nat, as[i]? = some (.inl j) → cs.length ≤ i)
  | [], cs, ρ, _, h => by
    unfold putBack at h
    exact .inr ⟨h, fun i e => nomatch e⟩
  | .inl a :: as, [], ρ, _, h => by
    unfold putBack at h
    exact .inr ⟨h, fun i _ => Nat.zero_le _⟩
  | .inr a :: as, [], ρ, _, h => by
    unfold putBack at h
    exact .inr ⟨h, fun i _ => Nat.zero_le _⟩
  | .inl a :: as, c0 :: cs, ρ, nd, h => by
    unfold putBack at h
    obtain ⟨n1, n2⟩ := List.nodup_cons.mp nd
    rcases pb_get (as := as) (cs := cs) n2 h with ⟨i, h1, h2⟩ | ⟨h1, h2⟩
    · exact .inl ⟨i + 1, h1, h2⟩
    · rcases set_get h1 with ⟨rfl, _, z⟩ | ⟨ne, z⟩
      · exact .inl ⟨0, rfl, by rw [z]; rfl⟩
      · refine .inr ⟨z, fun i e => ?_⟩
        cases i with
        | zero => cases e; exact (ne rfl).elim
        | succ i => exact Nat.succ_le_succ (h2 i e)
  | .inr a :: as, c0 :: cs, ρ, nd, h => by
    unfold putBack at h
    rcases pb_get (as := as) (cs := cs) nd h with ⟨i, h1, h2⟩ | ⟨h1, h2⟩
    · exact .inl ⟨i + 1, h1, h2⟩
    · refine .inr ⟨h1, fun i e => ?_⟩
      cases i with
      | zero => cases e
      | succ i => exact Nat.succ_le_succ (h2 i e)
theorem pb_len : ∀ {as : List Ar} {cs : List Cell} {ρ : Cs}, (putBack ρ as cs).length = ρ.length
  | [], _, _ => by unfold putBack; rfl
  | .inl _ :: _, [], _ => by unfold putBack; rfl
  | .inr _ :: _, [], _ => by unfold putBack; rfl
  | .inl a :: as, c0 :: cs, ρ => by
    unfold putBack
    rw [pb_len (as := as) (cs := cs), List.length_set]
  | .inr a :: as, c0 :: cs, ρ => by
    unfold putBack
    exact pb_len (as := as) (cs := cs)
theorem drop_slots {n i j : Nat} {as : List Ar} (h : slotsOf (as.drop n) = []) (e : as[i]? = some (.inl j)) : i < n := by
  refine Classical.byContradiction fun z => ?_
  have q : (as.drop n)[i - n]? = some (.inl j) := by
    rw [List.getElem?_drop, show n + (i - n) = i by omega]
    exact e
  have := mem_slots q
  rw [h] at this
  cases this
theorem t_call {F : Fs} {np n : Nat} {E : XK} (hm : Mo mr) (hF : ∀ cs (k k' : D → List Cell → Prop), (∀ d cs', k d cs' → k' d cs') → F cs k → F cs k') (hnp : ∀ cs k, F cs k → cs.length = np) (hn : n ≤ np) (σ : L2.St) (H : Hp) (Q : VK) (h : tE K (fE K) (mCall F n mr) σ H Q) :
    tCall (spD K np n F) [] E (tR K mr) σ H Q := by
  obtain ⟨G, ρ, R, h⟩ := h
  refine ⟨G, ρ, R, hm ρ _ _ (fun as ρ1 q vs G1 H1 R1 l1 ar => ?_) h⟩
  obtain ⟨nd, ds, q⟩ := q
  rw [List.append_nil]
  split at q
  · rename_i cs hcs
    obtain ⟨hl, get⟩ := cells_get R1 ar hcs
    have hv : vs.length = np := by rw [← hl]; exact hnp _ _ q
    -- the cells of the call
    have RR : Rel K (vs.map some) G1 H1 cs := by
      refine ⟨R1.gh, by rw [List.length_map, hl], fun i d e => ?_, fun i d e => ?_, fun i k p d e h h' g g' => ?_⟩
      · rcases get i _ e with ⟨d', v, z, _, hv, r⟩ | ⟨d', j, v, z, _⟩
        · cases z
          exact ⟨v, by rw [List.getElem?_map, hv]; rfl, r⟩
        · cases z
      · rcases get i _ e with ⟨d', v, z, _⟩ | ⟨d', j, v, z, _, hj, hv, hs⟩
        · cases z
        · cases z
          obtain ⟨p, o, h1, h2⟩ := R1.own j d hj
          rw [hs] at h1
          cases h1
          exact ⟨p, o, by rw [List.getElem?_map, hv]; rfl, h2⟩
      · rcases get i _ h with ⟨d', v, z, _⟩ | ⟨d', j, v, z, ha, hj, hv, hs⟩
        · cases z
        · rcases get k _ h' with ⟨d'', v', z', _⟩ | ⟨d'', j', v', z', ha', hj', hv', hs'⟩
          · cases z'
          · cases z
            cases z'
            rw [List.getElem?_map, hv] at g
            rw [List.getElem?_map, hv'] at g'
            cases g
            cases g'
            have := R1.apart j j' p d e hj hj' hs hs'
            subst this
            exact slots_inj nd ha ha'
    have own1 : ∀ p, Ow (vs.map some) cs p → Ow σ ρ1 p := by
      rintro p ⟨i, d, h1, h2⟩
      rcases get i _ h1 with ⟨d', v, z, _⟩ | ⟨d', j, v, z, ha, hj, hv, hs⟩
      · cases z
      · cases z
        rw [List.getElem?_map, hv] at h2
        cases h2
        exact ⟨j, d, hj, hs⟩
    refine ⟨hv, G1, cs, RR, hF _ _ _ (fun d cs' q v G' H' gh R' st r => ?_) q⟩
    have hcl : cs'.length = n := by
      rw [← R'.len, List.length_map, List.length_take]; omega
    -- an owned argument's place
    have arg : ∀ (i j : Nat), as[i]? = some (Sum.inl j) → ∃ v d, vs[i]? = some v ∧ σ[j]? = some (some v) ∧ ρ1[j]? = some (.own d) ∧ i < n ∧ cs[i]? = some (.own d) := fun i j e => by
      have hi := drop_slots ds e
      obtain ⟨c, hc⟩ : ∃ c, cs[i]? = some c := ⟨_, List.getElem?_eq_getElem (by omega)⟩
      rcases get i c hc with ⟨d', v, z, ha, _⟩ | ⟨d', j', v, z, ha, hj, hv, hs⟩
      · rw [e] at ha; cases ha
      · rw [e] at ha
        cases ha
        subst z
        exact ⟨v, d', hv, hs, hj, hi, hc⟩
    have tk : ∀ (i : Nat) (v : V), i < n → vs[i]? = some v → ((vs.take n).map some)[i]? = some (some v) := fun i v hi e => by
      rw [List.map_take, List.getElem?_take_of_lt hi, List.getElem?_map, e]; rfl
    have cases_ : ∀ (j : Nat) (c : Cell), (putBack ρ1 as cs')[j]? = some c → (∃ (i : Nat) (v : V) (d : D), as[i]? = some (Sum.inl j) ∧ cs'[i]? = some c ∧ i < n ∧ vs[i]? = some v ∧ σ[j]? = some (some v) ∧ ρ1[j]? = some (.own d)) ∨ (ρ1[j]? = some c ∧ ∀ i : Nat, as[i]? ≠ some (Sum.inl j)) := fun j c e => by
      rcases pb_get nd e with ⟨i, h1, h2⟩ | ⟨h1, h2⟩
      · obtain ⟨v, d, z1, z2, z3, z4, _⟩ := arg i j h1
        exact .inl ⟨i, v, d, h1, h2, z4, z1, z2, z3⟩
      · refine .inr ⟨h1, fun i z => ?_⟩
        have := h2 i z
        have := drop_slots ds z
        omega
    -- what isn't handed in is not touched
    have apart1 : ∀ (j : Nat) (d : D) (p : Addr), ρ1[j]? = some (Cell.own d) → σ[j]? = some (some (V.ref p)) → (∀ i : Nat, as[i]? ≠ some (Sum.inl j)) → ¬ Ow (vs.map some) cs p := fun j d p h1 h2 no ⟨i, d', h3, h4⟩ => by
      rcases get i _ h3 with ⟨_, _, z, _⟩ | ⟨d'', j', v, z, ha, hj, hv, hs⟩
      · cases z
      · rw [List.getElem?_map, hv] at h4
        cases h4
        have := R1.apart j j' p d d'' h1 hj h2 hs
        subst this
        exact no i ha
    have R2 : Rel K σ G' H' (putBack ρ1 as cs') := by
      refine ⟨gh, by rw [pb_len]; exact R1.len, fun j d e => ?_, fun j d e => ?_, fun j j' p d e h h' g g' => ?_⟩
      · rcases cases_ j _ e with ⟨i, v, d', h1, h2, h3, h4, h5, h6⟩ | ⟨h1, h2⟩
        · obtain ⟨v', g1, g2⟩ := R'.fro i d h2
          rw [tk i v h3 h4] at g1
          cases g1
          exact ⟨v, h5, g2⟩
        · obtain ⟨v, g1, g2⟩ := R1.fro j d h1
          exact ⟨v, g1, rp_same st.gg g2⟩
      · rcases cases_ j _ e with ⟨i, v, d', h1, h2, h3, h4, h5, h6⟩ | ⟨h1, h2⟩
        · obtain ⟨p, o, g1, g2⟩ := R'.own i d h2
          rw [tk i v h3 h4] at g1
          cases g1
          exact ⟨p, o, h5, g2⟩
        · obtain ⟨p, o, g1, g2, g3, g4⟩ := R1.own j d h1
          have na := apart1 j d p h1 g1 h2
          exact ⟨p, o, g1, st.hh p o na g2, st.fr p o na g2 g3 (ob_tup g4), ob_same st.gg g4⟩
      · have oj : ∀ (j : Nat) (d : D), (putBack ρ1 as cs')[j]? = some (.own d) → ∃ d, ρ1[j]? = some (.own d) := fun j d e => by
          rcases cases_ j _ e with ⟨i, v, d', h1, h2, h3, h4, h5, h6⟩ | ⟨h1, h2⟩
          · exact ⟨d', h6⟩
          · exact ⟨d, h1⟩
        obtain ⟨d1, e1⟩ := oj j d h
        obtain ⟨d2, e2⟩ := oj j' e h'
        exact R1.apart j j' p d1 d2 e1 e2 g g'
    refine q v G' H' R2 (l1.trans ⟨st.weak own1, fun p ⟨j, d, h1, h2⟩ => .inl ?_, fun _ _ => rfl⟩) r
    rcases cases_ j _ h1 with ⟨i, v, d', _, _, _, _, _, h6⟩ | ⟨h3, _⟩
    · exact ⟨j, d', h6, h2⟩
    · exact ⟨j, d, h3, h2⟩
  · exact q.elim
/-- f(e, ..) -/
theorem se_call {F : Fs} {n k : Nat} {f : Addr} {fd : FuncData} {ps : List Str} {x : Str} {p pos : Pos} (Fn : FnG X.prog X.w X.K X.mg X.base CX0 k f fd ps (spD K ps.length n F)) (hF : ∀ cs (k k' : D → List Cell → Prop), (∀ d cs', k d cs' → k' d cs') → F cs k → F cs k') (hnp : ∀ cs k, F cs k → cs.length = ps.length) (hn : n ≤ ps.length)
    (hG : Bare X.A) (hr : Room k X.A) (hg : Gl X x) (hm : X.mg x = some (.ref f)) (hk : PySem.W.keepIn X.K (.ref f) = true) (hb : Binds X.K fd ps []) (ha : SR K X (a :: es) mr) (hdb : (x == ("__debug__" : Str)) = false := by decide) (he : starEach (a :: es) X.env = (false, eval a X.env) :: starEach es X.env := by rfl)
    (hpl : (backTo pos (starEach es X.env)).any (·.1) = false := by rfl) : SE K (fE K) X (.Call (.Name x p) (a :: es) [] pos) (mCall F n mr) := by
  refine ⟨fun ρ k k' w => ha.mono ρ _ _ fun as ρ1 q => ⟨q.1, q.2.1, ?_⟩, pe_weak (pe_callG (E := fun _ _ _ => False) Fn hG hr hg hm hk hb pass0 ha.pa hdb he hpl) (t_call ha.mono hF hnp hn)⟩
  have q := q.2.2
  revert q
  cases cellsOf ρ1 as with
  | none => exact id
  | some cs => exact hF _ _ _ fun d cs' => w _ _
end
end Dl

set_option Elab.async false
set_option linter.all false
set_option maxRecDepth 100000
set_option maxHeartbeats 4000000
namespace Dl
open PySem PySem.Spec PyProof.Rows L2 Br
section
variable {K : PySem.W.Frag} {X : Cx} {G H : Hp} {x : V}
/-! ### what a view tells -/
theorem vw_int {i : Int} (h : Vw K G H x (.int i)) : x = .int i := by
  cases h with
  | fro r => cases r; rfl
  | own _ r => cases r
theorem vw_str {z : Str} (h : Vw K G H x (.str z)) : x = .str z := by
  cases h with
  | fro r => cases r; rfl
  | own _ r => cases r
theorem vw_bl {b : Bool} (h : Vw K G H x (.bool b)) : x = .bl b := by
  cases h with
  | fro r => cases r; rfl
  | own _ r => cases r
theorem vw_non (h : Vw K G H x .none) : x = .non := by
  cases h with
  | fro r => cases r; rfl
  | own _ r => cases r
theorem vw_list {ds : List D} (s : Same G H) (h : Vw K G H x (.list ds)) : ∃ a xs, x = .ref a ∧ Rd H a (.lst xs) ∧ RpAll K G xs ds := by
  cases h with
  | fro r => cases r with
    | lst q a => exact ⟨_, _, rfl, rd_same s q, a⟩
  | own e r => cases r with
    | lst a => exact ⟨_, _, rfl, .inl e, a⟩
theorem vw_scr {ns : List Int} (s : Same G H) (h : Vw K G H x (.scr ns)) : ∃ a, x = .ref a ∧ SqL K H a (ns.map V.int) := by
  cases h with
  | fro r => cases r with
    | scr q => exact ⟨_, rfl, s.seq q⟩
  | own e r => cases r
theorem vw_tup {c : Tk} {ds : List D} (s : Same G H) (h : Vw K G H x (.tuple c ds)) : ∃ a xs, x = .ref a ∧ Rp K G x (.tuple c ds) ∧ SqT K H a xs ∧ RpAll K G xs ds := by
  cases h with
  | fro r =>
    obtain ⟨a, xs, rfl, q, ra, _⟩ := rp_tup r
    exact ⟨a, xs, rfl, r, sqT_same s q, ra⟩
  | own e r => cases r
theorem vw_rp {d : D} (s : Same G H) (h : Vw K G H x d) : Rp K H x d := by
  cases h with
  | fro r => exact rp_same s r
  | own e r => exact ob_rp (ob_same s r) e
theorem vw_dict {ps : List (D × D)} (s : Same G H) (h : Vw K G H x (.dict ps)) : ∃ a, x = .ref a ∧
    ((∃ (ks : List Key) (xs : List V) (ds : List D), Rd H a (.dK (ks.zip xs)) ∧ ks.length = xs.length ∧ RpAll K G xs ds ∧ ps = (ks.map keyD).zip ds) ∨
     (∃ (ks : List (List Key)) (xs : List V) (ds : List D), Rd H a (.dT (ks.zip xs)) ∧ ks.length = xs.length ∧ RpAll K G xs ds ∧ ps = (ks.map fun k => D.tuple .mad (k.map keyD)).zip ds)) := by
  cases h with
  | fro r => cases r with
    | dK q l a => exact ⟨_, rfl, .inl ⟨_, _, _, rd_same s q, l, a, rfl⟩⟩
    | dT q l a => exact ⟨_, rfl, .inr ⟨_, _, _, rd_same s q, l, a, rfl⟩⟩
  | own e r => cases r with
    | dK l a => exact ⟨_, rfl, .inl ⟨_, _, _, .inl e, l, a, rfl⟩⟩
    | dT l a => exact ⟨_, rfl, .inr ⟨_, _, _, .inl e, l, a, rfl⟩⟩
/-! ### keys -/
def keyOf : D → Option Key
  | .int i => some (.inl i)
  | .str x => some (.inr x)
  | _ => none
def keysOf : List D → Option (List Key)
  | [] => some []
  | d :: ds => match keyOf d, keysOf ds with
    | some k, some ks => some (k :: ks)
    | _, _ => none
/-- a text or an int, or a tuple of such -/
def kOf : D → Option (Key ⊕ List Key)
  | .tuple _ ds => (keysOf ds).map .inr
  | d => (keyOf d).map .inl
theorem keyOf_D (k : Key) : keyOf (keyD k) = some k := by cases k <;> rfl
theorem keysOf_D : ∀ ks : List Key, keysOf (ks.map keyD) = some ks
  | [] => rfl
  | k :: ks => by
    rw [List.map_cons]
    unfold keysOf
    rw [keyOf_D, keysOf_D ks]
theorem keyOf_inv : ∀ {d : D} {k : Key}, keyOf d = some k → d = keyD k
  | .int i, _, h => by cases h; rfl
  | .str x, _, h => by cases h; rfl
theorem keysOf_inv : ∀ {ds : List D} {ks : List Key}, keysOf ds = some ks → ds = ks.map keyD
  | [], _, h => by cases h; rfl
  | d :: ds, ks, h => by
    unfold keysOf at h
    split at h
    · rename_i k ks' h1 h2
      cases h
      rw [keyOf_inv h1, keysOf_inv h2]
      rfl
    · cases h
def look {α : Type} [DecidableEq α] (f : D → Option α) (k : α) : List (D × D) → Option D
  | [] => none
  | p :: r => if f p.1 = some k then some p.2 else look f k r
/-- what a dict has for a key -/
def dLook (ps : List (D × D)) (d : D) : Option D := match kOf d with
  | some k => look kOf k ps
  | none => none
theorem kOf_D (k : Key) : kOf (keyD k) = some (.inl k) := by cases k <;> rfl
theorem kOf_T (c : Tk) (k : List Key) : kOf (.tuple c (k.map keyD)) = some (.inr k) := by
  show (keysOf (k.map keyD)).map Sum.inr = _
  rw [keysOf_D]; rfl
theorem kOf_inl {d : D} {k : Key} (h : kOf d = some (.inl k)) : d = keyD k := by
  cases d with
  | tuple c ds =>
    obtain ⟨_, _, z⟩ := Option.map_eq_some_iff.mp (show (keysOf ds).map Sum.inr = _ from h)
    cases z
  | int i => cases h; rfl
  | str x => cases h; rfl
  | none => cases h
  | bool _ => cases h
  | list _ => cases h
  | dict _ => cases h
  | scr _ => cases h
  | fn _ => cases h
  | exc _ _ _ => cases h
theorem kOf_inr {d : D} {k : List Key} (h : kOf d = some (.inr k)) : ∃ c, d = .tuple c (k.map keyD) := by
  cases d with
  | tuple c ds =>
    obtain ⟨ks, e, z⟩ := Option.map_eq_some_iff.mp (show (keysOf ds).map Sum.inr = _ from h)
    cases z
    exact ⟨c, by rw [keysOf_inv e]⟩
  | int i => cases h
  | str x => cases h
  | none => cases h
  | bool _ => cases h
  | list _ => cases h
  | dict _ => cases h
  | scr _ => cases h
  | fn _ => cases h
  | exc _ _ _ => cases h
theorem look_K {k : Key} : ∀ {ks : List Key} {xs : List V} {ds : List D}, ks.length = xs.length → RpAll K G xs ds → (∃ v d, valV (ks.zip xs) k = some v ∧ look kOf (.inl k) ((ks.map keyD).zip ds) = some d ∧ Rp K G v d) ∨ (valV (ks.zip xs) k = none ∧ look kOf (.inl k) ((ks.map keyD).zip ds) = none)
  | [], _, _, _, _ => .inr ⟨rfl, rfl⟩
  | q :: ks, _, _, hl, .nil => by cases hl
  | q :: ks, _ :: xs, _ :: ds, hl, .cons r rs => by
    have ih := look_K (k := k) (ks := ks) (Nat.succ.inj hl) rs
    show (∃ v d, valV ((q, _) :: ks.zip xs) k = some v ∧ (if kOf (keyD q) = some (.inl k) then some _ else look kOf (.inl k) ((ks.map keyD).zip ds)) = some d ∧ _) ∨ (valV ((q, _) :: ks.zip xs) k = none ∧ (if kOf (keyD q) = some (.inl k) then some _ else look kOf (.inl k) ((ks.map keyD).zip ds)) = none)
    rw [kOf_D]
    by_cases e : q = k
    · subst e
      exact .inl ⟨_, _, valV_pos rfl, if_pos rfl, r⟩
    · rw [valV_neg (show ¬ (q, _).1 = k from e), if_neg (fun z => e (Sum.inl.inj (Option.some.inj z)))]
      exact ih
theorem look_T {k : List Key} : ∀ {ks : List (List Key)} {xs : List V} {ds : List D}, ks.length = xs.length → RpAll K G xs ds → (∃ v d, valV (ks.zip xs) k = some v ∧ look kOf (.inr k) ((ks.map fun k => D.tuple .mad (k.map keyD)).zip ds) = some d ∧ Rp K G v d) ∨ (valV (ks.zip xs) k = none ∧ look kOf (.inr k) ((ks.map fun k => D.tuple .mad (k.map keyD)).zip ds) = none)
  | [], _, _, _, _ => .inr ⟨rfl, rfl⟩
  | q :: ks, _, _, hl, .nil => by cases hl
  | q :: ks, _ :: xs, _ :: ds, hl, .cons r rs => by
    have ih := look_T (k := k) (ks := ks) (Nat.succ.inj hl) rs
    show (∃ v d, valV ((q, _) :: ks.zip xs) k = some v ∧ (if kOf (.tuple .mad (q.map keyD)) = some (.inr k) then some _ else look kOf (.inr k) ((ks.map fun k => D.tuple .mad (k.map keyD)).zip ds)) = some d ∧ _) ∨ (valV ((q, _) :: ks.zip xs) k = none ∧ (if kOf (.tuple .mad (q.map keyD)) = some (.inr k) then some _ else look kOf (.inr k) ((ks.map fun k => D.tuple .mad (k.map keyD)).zip ds)) = none)
    rw [kOf_T]
    by_cases e : q = k
    · subst e
      exact .inl ⟨_, _, valV_pos rfl, if_pos rfl, r⟩
    · rw [valV_neg (show ¬ (q, _).1 = k from e), if_neg (fun z => e (Sum.inr.inj (Option.some.inj z)))]
      exact ih
/-! ### dicts asked -/
def DG (K : PySem.W.Frag) (H : Hp) (a : Addr) (y : V) (r : Option V) : Prop :=
  (∃ kvs k, Rd H a (.dK kvs) ∧ y = kV k ∧ r = valV kvs k) ∨ (∃ kvs k b, Rd H a (.dT kvs) ∧ y = .ref b ∧ SqT K H b (k.map kV) ∧ r = valV kvs k)
/-- d and the keys are of one kind -/
def isTupD : D → Bool
  | .tuple _ _ => true
  | _ => false
def fits (ps : List (D × D)) (d : D) : Bool := ps.all fun p => isTupD p.1 == isTupD d
theorem rd0_KT {P : Program} {w : World} {h : Heap} {a : Addr} (ok : HOk P w H h) (e : Rd H a (.dK [])) : (a == sysModules) = false ∧ h.DictOfH (tupleKind (mixKind P w)) a [] := by
  obtain ⟨_, hd, vs, rel, o, es, ep, h1, h2, h3, h4, h5, h6⟩ := dk_rd ok e
  cases rel
  cases q : es.toList with
  | nil => exact ⟨hd, o, es, ep, h1, h2, h3, q, (fun x z => by cases z), List.nodup_nil⟩
  | cons _ _ => rw [q] at h5; cases h5
theorem rd0_TK {P : Program} {w : World} {h : Heap} {a : Addr} (ok : HOk P w H h) (e : Rd H a (.dT [])) : (a == sysModules) = false ∧ h.DictOf (mixKind P w) a [] := by
  obtain ⟨_, hd, xs, rel, o, es, ep, h1, h2, h3, h4, h5, h6⟩ := dt_rd ok e
  cases rel
  have z : es.toList = [] := h4
  refine ⟨hd, o, es, ep, h1, h2, h3, ?_, ?_, List.nodup_nil⟩
  · intro x hx
    have := Array.mem_toList_iff.mpr hx
    rw [z] at this
    cases this
  · rw [z]; exact .nil
/-- what a dict has, with the machine's own facts: keys ints and texts, or tuples -/
inductive DK (X : Cx) (H : Hp) (s : Shared) (a : Addr) : V → Option V → Prop
  | k {k : Key} {kvs : List (Key × V)} {vs : List (Key × Value)} : (a == sysModules) = false → KV kvs vs → s.heap.DictOf (mixKind X.prog X.w) a vs → DK X H s a (kV k) (valV kvs k)
  | t {k : List Key} {b : Addr} {kvs : List (List Key × V)} {xs : List (List Key × Addr × Value)} : (a == sysModules) = false → KT H kvs xs → s.heap.DictOfH (tupleKind (mixKind X.prog X.w)) a xs → (tupleKind (mixKind X.prog X.w)).is s.heap k b → DK X H s a (.ref b) (valV kvs k)
theorem key_sq {pins : List (Addr × Obj)} {σ : L2.St} {s : Shared} {b : Addr} {ks : List Key} (I : Inv X pins σ H s) (e : SqT X.K H b (ks.map kV)) : (tupleKind (mixKind X.prog X.w)).is s.heap ks b := by
  obtain ⟨its, rv, ⟨o, ho, hc, n, hd⟩, _⟩ := I.tuple e
  exact ⟨o, its.toArray, n, ho, hc, hd, by simpa using items_are rv⟩
theorem key_vals : ∀ {ks : List Key} {xs : List V}, RpAll K G xs (ks.map keyD) → xs = ks.map kV
  | [], _, .nil => rfl
  | k :: ks, _, .cons (v := v) r rs => by
    rw [key_vals rs]
    have : v = kV k := by
      cases k with
      | inl i => cases r; rfl
      | inr x => cases r; rfl
    rw [this]; rfl
theorem key_val {k : Key} {v : V} (r : Vw K G H v (keyD k)) : v = kV k := by
  cases k with
  | inl i => exact vw_int r
  | inr x => exact vw_str r
theorem zip_nil {α β : Type} {as : List α} {bs : List β} (hl : as.length = bs.length) (h : as.zip bs = []) : as = [] := by
  cases as with
  | nil => rfl
  | cons a as => cases bs with
    | nil => cases hl
    | cons b bs => cases h
/-- a dict that is read at a key that is read -/
theorem dk_of_vw {pins : List (Addr × Obj)} {σ : L2.St} {s : Shared} {y : V} {ps : List (D × D)} {d : D} {k : Key ⊕ List Key} (I : Inv X pins σ H s) (g : Same G H) (hx : Vw X.K G H x (.dict ps)) (hy : Vw X.K G H y d) (hk : kOf d = some k) (hf : fits ps d = true) :
    ∃ a r, x = .ref a ∧ DK X H s a y r ∧ ((∃ v e, r = some v ∧ dLook ps d = some e ∧ Rp X.K G v e) ∨ (r = none ∧ dLook ps d = none)) := by
  have lk : dLook ps d = look kOf k ps := by unfold dLook; rw [hk]
  obtain ⟨a, rfl, c⟩ := vw_dict g hx
  refine ⟨a, ?_⟩
  rcases k with k | k
  · have ed := kOf_inl hk
    subst ed
    have ey := key_val hy
    subst ey
    rcases c with ⟨ks, xs, ds, rd, hl, ra, rfl⟩ | ⟨ks, xs, ds, rd, hl, ra, rfl⟩
    · obtain ⟨_, hd, vs, rel, dd⟩ := dk_rd I.hok rd
      refine ⟨_, rfl, .k hd rel dd, ?_⟩
      rw [lk]
      rcases look_K (k := k) hl ra with ⟨v, e, h1, h2, h3⟩ | ⟨h1, h2⟩
      · exact .inl ⟨v, e, h1, h2, h3⟩
      · exact .inr ⟨h1, h2⟩
    · have e0 : ks = [] := by
        cases ks with
        | nil => rfl
        | cons q ks =>
          cases ra with
          | nil => cases hl
          | cons _ _ =>
            have := List.all_eq_true.mp hf _ List.mem_cons_self
            cases k <;> cases this
      subst e0
      obtain ⟨hd, dd⟩ := rd0_TK I.hok rd
      exact ⟨none, rfl, .k (kvs := []) (vs := []) hd .nil dd, .inr ⟨rfl, by rw [lk]; rfl⟩⟩
  · obtain ⟨c', ed⟩ := kOf_inr hk
    subst ed
    obtain ⟨b, ys, rfl, _, sq, ry⟩ := vw_tup g hy
    have ey := key_vals ry
    subst ey
    have isk := key_sq I sq
    rcases c with ⟨ks, xs, ds, rd, hl, ra, rfl⟩ | ⟨ks, xs, ds, rd, hl, ra, rfl⟩
    · have e0 : ks = [] := by
        cases ks with
        | nil => rfl
        | cons q ks =>
          cases ra with
          | nil => cases hl
          | cons _ _ =>
            have := List.all_eq_true.mp hf _ List.mem_cons_self
            cases q <;> cases this
      subst e0
      obtain ⟨hd, dd⟩ := rd0_KT I.hok rd
      exact ⟨none, rfl, .t (kvs := []) (xs := []) hd .nil dd isk, .inr ⟨rfl, by rw [lk]; rfl⟩⟩
    · obtain ⟨_, hd, vs, rel, dd⟩ := dt_rd I.hok rd
      refine ⟨_, rfl, .t hd rel dd isk, ?_⟩
      rw [lk]
      rcases look_T (k := k) hl ra with ⟨v, e, h1, h2, h3⟩ | ⟨h1, h2⟩
      · exact .inl ⟨v, e, h1, h2, h3⟩
      · exact .inr ⟨h1, h2⟩
theorem DK.typeIs {s : Shared} {a : Addr} {y : V} {r : Option V} (h : DK X H s a y r) : s.TypeIs (.ref a) "dict" ∧ (∀ b, Value.ref a = .ref b → ∃ ob, s.heap.get? b = some ob ∧ ob.dict = none) := by
  cases h with
  | k _ _ dd =>
    refine ⟨dd.typeIs, fun b q => ?_⟩
    cases q
    obtain ⟨ob, _, _, h1, h2, _⟩ := dd
    exact ⟨ob, h1, h2.2.1⟩
  | t _ _ dd _ =>
    refine ⟨dd.typeIs, fun b q => ?_⟩
    cases q
    obtain ⟨ob, _, _, h1, h2, _⟩ := dd
    exact ⟨ob, h1, h2.2.1⟩
variable {A : Around} {E : Value → Shared → Prop} {s : Shared} {a : Addr} {y v : V} {u : Value} {o : Option V}
theorem dk_get {Q : Value → Shared → Prop} (hu : A.units + 1 < cLine) (g : DK X H s a y (some v)) (ry : RelV y u) (h : ∀ w' t, RelV v w' → Q w' { s with toks := t }) : wpAny (model X.prog X.w) A (getItem (.ref a) u) Q E s := by
  generalize e : (some v : Option V) = r at g
  cases g with
  | k hd rel dd =>
    obtain ⟨w', hw, rw'⟩ := RelO.some_of (v := v) (o := valueAt _ _) (by rw [e]; exact rel.val _)
    exact wpAny_getItem_of (kV_is ry) dd.mapOf hw (h w' _ rw')
  | t hd rel dd hk =>
    cases ry
    obtain ⟨w', hw, rw'⟩ := RelO.some_of (v := v) (o := (atKey _ _).map (·.2)) (by rw [e]; exact rel.val _)
    obtain ⟨p, hp, hp2⟩ := Option.map_eq_some_iff.mp hw
    refine wpAny_getItem_heap (tupleKind_room_in1 hu) hk dd hp ?_
    rw [hp2]
    exact h w' _ rw'
theorem dk_in {Q : Value → Shared → Prop} (hu : A.units + 1 < cLine) (g : DK X H s a y o) (ry : RelV y u) (h : ∀ t, Q (.bool o.isSome) { s with toks := t }) : wpAny (model X.prog X.w) A (compareOp .In u (.ref a)) Q E s := by
  cases g with
  | k hd rel dd =>
    refine wpAny_in_of (kV_is ry) hd dd.mapOf ?_
    rw [← (rel.val _).isSome_eq]
    exact h _
  | @t kk _ _ _ hd rel dd hk =>
    cases ry
    refine wpAny_in_heap (tupleKind_room_in1 hu) hk hd dd ?_
    have q := (rel.val kk).isSome_eq
    rw [Option.isSome_map] at q
    rw [← q]
    exact h _
theorem dk_notIn {Q : Value → Shared → Prop} (hu : A.units + 1 < cLine) (g : DK X H s a y o) (ry : RelV y u) (h : ∀ t, Q (.bool (!o.isSome)) { s with toks := t }) : wpAny (model X.prog X.w) A (compareOp .NotIn u (.ref a)) Q E s := by
  cases g with
  | k hd rel dd =>
    refine wpAny_notIn_of (kV_is ry) hd dd.mapOf ?_
    rw [← (rel.val _).isSome_eq]
    exact h _
  | @t kk _ _ _ hd rel dd hk =>
    cases ry
    refine wpAny_notIn_heap (tupleKind_room_in1 hu) hk hd dd ?_
    have q := (rel.val kk).isSome_eq
    rw [Option.isSome_map] at q
    rw [← q]
    exact h _
theorem dk_get2 {d : V} {r : Value} {Q : Value → Shared → Prop} (hu : A.units + 1 < cLine) (g : DK X H s a y o) (ry : RelV y u) (rd : RelV d r) (h : ∀ w' t, RelV (o.getD d) w' → Q w' { s with toks := t }) : wpAny (model X.prog X.w) A (call (.builtin "dict.get") [.ref a, u, r]) Q E s := by
  cases g with
  | k hd rel dd => exact call_meetsIn PySem.F.slot_dict_get dd.typeIs PySem.F.entry_dict_get (PySem.F.args_dict_get_3 _ _ _) (meets_dict_get_default (mixKind X.prog X.w) a (kV_is ry) hd r) ⟨_, dd.mapOf, h _ _ ((rel.val _).getD rd)⟩
  | t hd rel dd hk =>
    cases ry
    exact call_meetsIn PySem.F.slot_dict_get dd.typeIs PySem.F.entry_dict_get (PySem.F.args_dict_get_3 _ _ _) (meetsH_dict_get_default (tupleKind (mixKind X.prog X.w)) a _ hd r) ⟨tupleKind_room_in1 hu, _, _, hk, dd, h _ _ ((rel.val _).getD rd)⟩
theorem dk_get1 {Q : Value → Shared → Prop} (hu : A.units + 1 < cLine) (g : DK X H s a y o) (ry : RelV y u) (h : ∀ w' t, RelV (o.getD .non) w' → Q w' { s with toks := t }) : wpAny (model X.prog X.w) A (call (.builtin "dict.get") [.ref a, u]) Q E s := by
  cases g with
  | k hd rel dd => exact call_meetsIn PySem.F.slot_dict_get dd.typeIs PySem.F.entry_dict_get (PySem.F.args_dict_get_2 _ _) (meets_dict_get (mixKind X.prog X.w) a (kV_is ry) hd) ⟨_, dd.mapOf, h _ _ ((rel.val _).getD rfl)⟩
  | t hd rel dd hk =>
    cases ry
    exact call_meetsIn PySem.F.slot_dict_get dd.typeIs PySem.F.entry_dict_get (PySem.F.args_dict_get_2 _ _) (meetsH_dict_get (tupleKind (mixKind X.prog X.w)) a _ hd) ⟨tupleKind_room_in1 hu, _, _, hk, dd, h _ _ ((rel.val _).getD rfl)⟩
end
end Dl

set_option Elab.async false
set_option linter.all false
set_option maxRecDepth 100000
set_option maxHeartbeats 4000000
namespace Dl
open PySem PySem.Spec PyProof.Rows L2 Br
/-! ### operations by data -/
abbrev Then (K : PySem.W.Frag) (π : PF) (G H : Hp) (Q : VK) : D → Prop := fun d => ∀ v G' H', Same G' H' → Stp Pure G H G' H' → π H G' H' v d → Q v H'
def rO2 (K : PySem.W.Frag) (π : PF) (o : O2) : R2 := fun x y H Q => ∃ G a b, Same G H ∧ Vw K G H x a ∧ Vw K G H y b ∧ o a b (Then K π G H Q)
def rO1 (K : PySem.W.Frag) (π : PF) (o : O1) : V → Hp → VK → Prop := fun x H Q => ∃ G a, Same G H ∧ Vw K G H x a ∧ o a (Then K π G H Q)
def rOn (K : PySem.W.Frag) (π : PF) (o : On) : List V → Hp → VK → Prop := fun xs H Q => ∃ G as, Same G H ∧ RpAll K G xs as ∧ o as (Then K π G H Q)
def Mo1 (o : O1) : Prop := ∀ a (k k' : D → Prop), (∀ d, k d → k' d) → o a k → o a k'
def Mo2 (o : O2) : Prop := ∀ a b (k k' : D → Prop), (∀ d, k d → k' d) → o a b k → o a b k'
def Mon (o : On) : Prop := ∀ as (k k' : D → Prop), (∀ d, k d → k' d) → o as k → o as k'
theorem op2_of {K : PySem.W.Frag} {π : PF} {o : O2} (m : Mo2 o) : Op2 K π (rO2 K π o) o := ⟨m, fun G H x y a b Q s hx hy q => ⟨G, a, b, s, hx, hy, q⟩⟩
theorem op1_of {K : PySem.W.Frag} {π : PF} {o : O1} (m : Mo1 o) : Op1 K π (rO1 K π o) o := ⟨m, fun G H x a Q s hx q => ⟨G, a, s, hx, q⟩⟩
theorem opn_of {K : PySem.W.Frag} {π : PF} {o : On} (m : Mon o) : Opn K π (rOn K π o) o := ⟨m, fun G H xs as Q s hx q => ⟨G, as, s, hx, q⟩⟩
section
variable {X : Cx} {pins : List (Addr × Obj)} {σ : L2.St} {G H : Hp} {s : Shared} {Q : VK}
/-- the heap stays -/
theorem stay {K : PySem.W.Frag} {d : D} {v : V} (g : Same G H) (q : Then K (pE K) G H Q d) (r : Rp K G v d) : Q v H := q v G H g .refl r
/-- a new tuple, a new list taken in -/
theorem newG {K : PySem.W.Frag} {d : D} {p : Addr} {o : HO} (g : Same G H) (q : Then K (pE K) G H Q d) (np : H p = none) (r : Rp K (upd G p o) (.ref p) d) : Q (.ref p) (upd H p o) :=
  q _ _ _ (same_new2 g np) (stp_newG g np) r
theorem rps_app {K : PySem.W.Frag} : ∀ {vs ws : List V} {xs ys : List D}, RpAll K G vs xs → RpAll K G ws ys → RpAll K G (vs ++ ws) (xs ++ ys)
  | _, _, _, _, .nil, b => b
  | _, _, _, _, .cons a r, b => .cons a (rps_app r b)
/-- what a tuple made of two is -/
def tkAdd : Tk → Tk → Tk
  | .mad, .mad => .mad
  | _, _ => .wri
theorem rp_any {K : PySem.W.Frag} {v : V} {c e : Tk} {ds : List D} (h : Rp K G v (.tuple .mad ds)) : Rp K G v (.tuple (tkAdd c e) ds) := by
  cases c <;> cases e <;> first | exact h | exact rp_weak h
theorem rp_andL {K : PySem.W.Frag} {v : V} {c e : Tk} {ds : List D} (h : Rp K G v (.tuple c ds)) : Rp K G v (.tuple (tkAdd c e) ds) := by
  cases c <;> cases e <;> first | exact h | exact rp_weak h
theorem rp_andR {K : PySem.W.Frag} {v : V} {c e : Tk} {ds : List D} (h : Rp K G v (.tuple e ds)) : Rp K G v (.tuple (tkAdd c e) ds) := by
  cases c <;> cases e <;> first | exact h | exact rp_weak h
def oAdd : O2 := fun a b k => match a, b with
  | .int i, .int j => k (.int (i + j))
  | .str x, .str y => x.length + y.length ≤ sizeLine ∧ k (.str (x ++ y))
  | .list xs, .list ys => xs.length + ys.length ≤ sizeLine ∧ k (.list (xs ++ ys))
  | .tuple c xs, .tuple e ys => xs.length + ys.length ≤ sizeLine ∧ k (.tuple (tkAdd c e) (xs ++ ys))
  | _, _ => False
theorem mo_add : Mo2 oAdd := fun a b k k' w h => by
  cases a <;> cases b <;> first | exact h.elim | exact w _ h | exact ⟨h.1, w _ h.2⟩
theorem opr_add : OpR X (binaryOp .Add) (rO2 X.K (pE X.K) oAdd) := by
  intro pins s σ H x y v u Q I rx ry h
  obtain ⟨G, a, b, g, hx, hy, q⟩ := h
  cases a <;> cases b <;> first | exact q.elim | skip
  · have ex := vw_int hx
    have ey := vw_int hy
    subst ex ey
    exact op_add pins s σ H _ _ v u Q I rx ry ⟨_, _, rfl, rfl, stay g q (.int _)⟩
  · have ex := vw_str hx
    have ey := vw_str hy
    subst ex ey
    exact op_add_str pins s σ H _ _ v u Q I rx ry ⟨_, _, rfl, rfl, q.1, stay g q.2 (.str _)⟩
  · obtain ⟨l, xs, rfl, h1, r1⟩ := vw_list g hx
    obtain ⟨b, ys, rfl, h2, r2⟩ := vw_list g hy
    cases rx
    cases ry
    obtain ⟨z, its, n, rv, e⟩ := (show ObjOk X.prog X.w H s.heap l (.lst xs) from h1.ok I.hok)
    obtain ⟨z2, its2, n2, rv2, e2⟩ := (show ObjOk X.prog X.w H s.heap b (.lst ys) from h2.ok I.hok)
    have l1 := rps_len r1
    have l2 := rps_len r2
    have l3 := rv.length
    have l4 := rv2.length
    have hz := q.1
    refine PySem.P.add_list e e2 ?_ (by rw [List.size_toArray, List.size_toArray]; omega)
    rw [show its.toArray ++ its2.toArray = (its ++ its2).toArray by simp]
    exact ⟨.ref _, _, I.lnew (t' := s.toks) (rv.append rv2) (by rw [List.length_append]; omega), rfl, newG g q.2 I.fresh (.lst (.inl upd_same) (rps_same (same_upd (g.free I.fresh)) (rps_app r1 r2)))⟩
  · obtain ⟨l, xs, rfl, s1, h1, r1⟩ := vw_tup g hx
    obtain ⟨b, ys, rfl, s2, h2, r2⟩ := vw_tup g hy
    have l1 := rps_len r1
    have l2 := rps_len r2
    have hz := q.1
    refine op_catA pins s σ H _ _ v u Q I rx ry ⟨l, b, xs, ys, rfl, rfl, h1, h2, by omega, fun e => ?_, fun _ e => ?_, fun _ _ p np => ?_⟩
    · subst e
      cases r1
      exact stay g q.2 (rp_andR s2)
    · subst e
      cases r2
      exact stay g q.2 (by rw [List.append_nil]; exact rp_andL s1)
    · exact newG g q.2 np (rp_any (.tup upd_same (rps_same (same_upd (g.free np)) (rps_app r1 r2))))
def oSub : O2 := fun a b k => match a, b with
  | .int i, .int j => k (.int (i - j))
  | _, _ => False
def oMod : O2 := fun a b k => match a, b with
  | .int i, .int j => 0 < j ∧ k (.int (i % j))
  | _, _ => False
def oFdiv : O2 := fun a b k => match a, b with
  | .int i, .int j => (0 < j ∧ j < 1073741824) ∧ k (.int (i / j))
  | _, _ => False
def oMul : O2 := fun a b k => match a, b with
  | .int i, .int j => ((-(2 ^ 64) < i ∧ i < 2 ^ 64) ∨ (-(2 ^ 64) < j ∧ j < 2 ^ 64)) ∧ k (.int (i * j))
  | _, _ => False
def oPow : O2 := fun a b k => match a, b with
  | .int i, .int j => (0 ≤ j ∧ j ≤ 1000000 ∧ i.natAbs < 2 ^ 64) ∧ k (.int (i ^ j.toNat))
  | _, _ => False
def oNeg : O1 := fun a k => match a with
  | .int i => k (.int (-i))
  | _ => False
theorem mo_sub : Mo2 oSub := fun a b k k' w h => by cases a <;> cases b <;> first | exact h.elim | exact w _ h
theorem mo_mod : Mo2 oMod := fun a b k k' w h => by cases a <;> cases b <;> first | exact h.elim | exact ⟨h.1, w _ h.2⟩
theorem mo_fdiv : Mo2 oFdiv := fun a b k k' w h => by cases a <;> cases b <;> first | exact h.elim | exact ⟨h.1, w _ h.2⟩
theorem mo_mul : Mo2 oMul := fun a b k k' w h => by cases a <;> cases b <;> first | exact h.elim | exact ⟨h.1, w _ h.2⟩
theorem mo_pow : Mo2 oPow := fun a b k k' w h => by cases a <;> cases b <;> first | exact h.elim | exact ⟨h.1, w _ h.2⟩
theorem mo_neg : Mo1 oNeg := fun a k k' w h => by cases a <;> first | exact h.elim | exact w _ h
theorem opr_ints {f : Value → Value → Sem Value} {C : Int → Int → Prop} {fn : Int → Int → V} {fd : Int → Int → D} {o : O2} (hr : OpR X f (rI C fn)) (hrp : ∀ i j, Rp X.K G (fn i j) (fd i j)) : True := trivial
theorem opr_sub : OpR X (binaryOp .Sub) (rO2 X.K (pE X.K) oSub) := by
  intro pins s σ H x y v u Q I rx ry h
  obtain ⟨G, a, b, g, hx, hy, q⟩ := h
  cases a <;> cases b <;> first | exact q.elim | skip
  have ex := vw_int hx
  have ey := vw_int hy
  subst ex ey
  exact op_sub pins s σ H _ _ v u Q I rx ry ⟨_, _, rfl, rfl, stay g q (.int _)⟩
theorem opr_mod : OpR X (binaryOp .Mod) (rO2 X.K (pE X.K) oMod) := by
  intro pins s σ H x y v u Q I rx ry h
  obtain ⟨G, a, b, g, hx, hy, q⟩ := h
  cases a <;> cases b <;> first | exact q.elim | skip
  have ex := vw_int hx
  have ey := vw_int hy
  subst ex ey
  exact op_mod pins s σ H _ _ v u Q I rx ry ⟨_, _, rfl, rfl, q.1, stay g q.2 (.int _)⟩
theorem opr_fdiv : OpR X (binaryOp .FloorDiv) (rO2 X.K (pE X.K) oFdiv) := by
  intro pins s σ H x y v u Q I rx ry h
  obtain ⟨G, a, b, g, hx, hy, q⟩ := h
  cases a <;> cases b <;> first | exact q.elim | skip
  have ex := vw_int hx
  have ey := vw_int hy
  subst ex ey
  exact op_fdiv pins s σ H _ _ v u Q I rx ry ⟨_, _, rfl, rfl, q.1, stay g q.2 (.int _)⟩
theorem opr_mul : OpR X (binaryOp .Mult) (rO2 X.K (pE X.K) oMul) := by
  intro pins s σ H x y v u Q I rx ry h
  obtain ⟨G, a, b, g, hx, hy, q⟩ := h
  cases a <;> cases b <;> first | exact q.elim | skip
  have ex := vw_int hx
  have ey := vw_int hy
  subst ex ey
  exact op_mul pins s σ H _ _ v u Q I rx ry ⟨_, _, rfl, rfl, q.1, stay g q.2 (.int _)⟩
theorem opr_pow : OpR X (binaryOp .Pow) (rO2 X.K (pE X.K) oPow) := by
  intro pins s σ H x y v u Q I rx ry h
  obtain ⟨G, a, b, g, hx, hy, q⟩ := h
  cases a <;> cases b <;> first | exact q.elim | skip
  have ex := vw_int hx
  have ey := vw_int hy
  subst ex ey
  exact op_pow pins s σ H _ _ v u Q I rx ry ⟨_, _, rfl, rfl, q.1, stay g q.2 (.int _)⟩
theorem unr_neg : UnR X (unaryOp .USub) (rO1 X.K (pE X.K) oNeg) := by
  intro pins s σ H x v Q I rx h
  obtain ⟨G, a, g, hx, q⟩ := h
  cases a <;> first | exact q.elim | skip
  have ex := vw_int hx
  subst ex
  exact un_neg pins s σ H _ v Q I rx ⟨_, rfl, stay g q (.int _)⟩
/-! comparisons -/
mutual
theorem rp_dp' {K : PySem.W.Frag} : ∀ (d : D) (v : V), Rp K H v d → (toPy d).canLay0 = true → Dp K H v (toPy d)
  | .none, _, .non, _ => .non
  | .bool _, _, .bl b, _ => .bl b
  | .int _, _, .int i, _ => .int i
  | .str _, _, .str x, _ => .str x
  | .list ds, _, .lst s a, h => .lst (.inl s) (rps_dp' ds _ a h)
  | .tuple .mad ds, _, .tup s a, h => .tup (SqT.of s) (rps_dp' ds _ a h)
  | .tuple .wri ds, _, .tupC s a, h => .tup s (rps_dp' ds _ a h)
  | .tuple .frz ds, _, .tupZ s _ a, h => .tup (.inl (.inr ⟨_, s⟩)) (rps_dp' ds _ a h)
  | .dict _, _, _, h => (Bool.false_ne_true h).elim
  | .scr _, _, _, h => (Bool.false_ne_true h).elim
  | .exc _ _ _, _, _, h => (Bool.false_ne_true h).elim
theorem rps_dp' {K : PySem.W.Frag} : ∀ (ds : List D) (vs : List V), RpAll K H vs ds → PyData.canLayAll0 (toPys ds) = true → DpAll K H vs (toPys ds)
  | [], _, .nil, _ => .nil
  | d :: ds, _, .cons x r, h => .cons (rp_dp' d _ x (Bool.and_eq_true_iff.mp h).1) (rps_dp' ds _ r (Bool.and_eq_true_iff.mp h).2)
end
theorem rp_dp {K : PySem.W.Frag} {v : V} {d : D} (h : Rp K H v d) (z : (toPy d).canLay0 = true) : Dp K H v (toPy d) := rp_dp' d v h z
def shp (d : D) : Prop := SeqAt.shaped (toPy d) = true
def eqd (a b : D) : Bool := PyData.eqv (toPy a) (toPy b)
theorem any_py {a : D} : ∀ ds : List D, (toPys ds).any (fun z => PyData.eqv z (toPy a)) = ds.any fun z => eqd z a
  | [] => rfl
  | d :: ds => by
    show (PyData.eqv (toPy d) (toPy a) || (toPys ds).any fun z => PyData.eqv z (toPy a)) = (eqd d a || ds.any fun z => eqd z a)
    rw [any_py ds]; rfl
def oEq : O2 := fun a b k => match a, b with
  | .int i, .int j => k (.bool (decide (i = j)))
  | .str x, .str y => k (.bool (decide (x = y)))
  | a, b => shp a ∧ shp b ∧ k (.bool (eqd a b))
def oNe : O2 := fun a b k => match a, b with
  | .int i, .int j => k (.bool (!decide (i = j)))
  | .str x, .str y => k (.bool (!decide (x = y)))
  | a, b => shp a ∧ shp b ∧ k (.bool (!eqd a b))
theorem mo_eq : Mo2 oEq := fun a b k k' w h => by cases a <;> cases b <;> first | exact w _ h | exact ⟨h.1, h.2.1, w _ h.2.2⟩
theorem mo_ne : Mo2 oNe := fun a b k k' w h => by cases a <;> cases b <;> first | exact w _ h | exact ⟨h.1, h.2.1, w _ h.2.2⟩
theorem dint {i j : Int} : decide (V.int i = V.int j) = decide (i = j) := by
  rw [Bool.eq_iff_iff]; simp
theorem dstr {i j : Str} : decide (V.str i = V.str j) = decide (i = j) := by
  rw [Bool.eq_iff_iff]; simp
theorem opr_eq (hu : X.A.units + 64 < cLine) : OpR X (compareOp .Eq) (rO2 X.K (pE X.K) oEq) := by
  intro pins s σ H x y v u Q I rx ry h
  obtain ⟨G, a, b, g, hx, hy, q⟩ := h
  have gen : (shp a ∧ shp b ∧ Then X.K (pE X.K) G H Q (.bool (eqd a b))) → wpAny (model X.prog X.w) X.A (compareOp .Eq v u) (EP X pins σ Q) X.xe s := fun q =>
    op_eqD hu pins s σ H _ _ v u Q I rx ry ⟨toPy a, toPy b, rp_dp (vw_rp g hx) (SeqAt.canLay_of_shaped q.1), rp_dp (vw_rp g hy) (SeqAt.canLay_of_shaped q.2.1), q.1, q.2.1, stay g q.2.2 (.bl _)⟩
  cases a <;> cases b <;> first | exact gen q | skip
  · have ex := vw_int hx
    have ey := vw_int hy
    subst ex ey
    exact op_eq pins s σ H _ _ v u Q I rx ry ⟨rfl, by rw [dint]; exact stay g q (.bl _)⟩
  · have ex := vw_str hx
    have ey := vw_str hy
    subst ex ey
    exact op_eq pins s σ H _ _ v u Q I rx ry ⟨rfl, by rw [dstr]; exact stay g q (.bl _)⟩
theorem opr_ne (hu : X.A.units + 64 < cLine) : OpR X (compareOp .NotEq) (rO2 X.K (pE X.K) oNe) := by
  intro pins s σ H x y v u Q I rx ry h
  obtain ⟨G, a, b, g, hx, hy, q⟩ := h
  have gen : (shp a ∧ shp b ∧ Then X.K (pE X.K) G H Q (.bool (!eqd a b))) → wpAny (model X.prog X.w) X.A (compareOp .NotEq v u) (EP X pins σ Q) X.xe s := fun q =>
    op_neD hu pins s σ H _ _ v u Q I rx ry ⟨toPy a, toPy b, rp_dp (vw_rp g hx) (SeqAt.canLay_of_shaped q.1), rp_dp (vw_rp g hy) (SeqAt.canLay_of_shaped q.2.1), q.1, q.2.1, stay g q.2.2 (.bl _)⟩
  cases a <;> cases b <;> first | exact gen q | skip
  · have ex := vw_int hx
    have ey := vw_int hy
    subst ex ey
    exact op_ne pins s σ H _ _ v u Q I rx ry ⟨rfl, by rw [dint]; exact stay g q (.bl _)⟩
  · have ex := vw_str hx
    have ey := vw_str hy
    subst ex ey
    exact op_ne pins s σ H _ _ v u Q I rx ry ⟨rfl, by rw [dstr]; exact stay g q (.bl _)⟩
def oCmp (fi : Int → Int → Bool) (fs : List Nat → List Nat → Bool) : O2 := fun a b k => match a, b with
  | .int i, .int j => k (.bool (fi i j))
  | .str x, .str y => k (.bool (fs x.cps.toList y.cps.toList))
  | _, _ => False
theorem mo_cmp {fi : Int → Int → Bool} {fs : List Nat → List Nat → Bool} : Mo2 (oCmp fi fs) := fun a b k k' w h => by cases a <;> cases b <;> first | exact h.elim | exact w _ h
theorem opr_cmp {op : CmpOp} {fi : Int → Int → Bool} {fs : List Nat → List Nat → Bool} (hi : OpR X (compareOp op) (rI0 fun i j => .bl (fi i j))) (hs : OpR X (compareOp op) (fun x y H Q => ∃ i j, x = .str i ∧ y = .str j ∧ Q (.bl (fs i.cps.toList j.cps.toList)) H)) : OpR X (compareOp op) (rO2 X.K (pE X.K) (oCmp fi fs)) := by
  intro pins s σ H x y v u Q I rx ry h
  obtain ⟨G, a, b, g, hx, hy, q⟩ := h
  cases a <;> cases b <;> first | exact q.elim | skip
  · have ex := vw_int hx
    have ey := vw_int hy
    subst ex ey
    exact hi pins s σ H _ _ v u Q I rx ry ⟨_, _, rfl, rfl, stay g q (.bl _)⟩
  · have ex := vw_str hx
    have ey := vw_str hy
    subst ex ey
    exact hs pins s σ H _ _ v u Q I rx ry ⟨_, _, rfl, rfl, stay g q (.bl _)⟩
abbrev oLt : O2 := oCmp (fun i j => decide (i < j)) fun a b => decide (a < b)
abbrev oLe : O2 := oCmp (fun i j => decide (i ≤ j)) fun a b => !decide (b < a)
abbrev oGt : O2 := oCmp (fun i j => decide (j < i)) fun a b => decide (b < a)
abbrev oGe : O2 := oCmp (fun i j => decide (j ≤ i)) fun a b => !decide (a < b)
theorem opr_lt : OpR X (compareOp .Lt) (rO2 X.K (pE X.K) oLt) := opr_cmp op_lt op_lt_str
theorem opr_le : OpR X (compareOp .LtE) (rO2 X.K (pE X.K) oLe) := opr_cmp op_le op_le_str
theorem opr_gt : OpR X (compareOp .Gt) (rO2 X.K (pE X.K) oGt) := opr_cmp op_gt op_gt_str
theorem opr_ge : OpR X (compareOp .GtE) (rO2 X.K (pE X.K) oGe) := opr_cmp op_ge op_ge_str
theorem xor_f (b : Bool) : (b != false) = b := by cases b <;> rfl
theorem xor_t (b : Bool) : (b != true) = !b := by cases b <;> rfl
def isNon : D → Bool
  | .none => true
  | _ => false
def oIsN (neg : Bool) : O2 := fun a b k => match b with
  | .none => k (.bool (isNon a != neg))
  | _ => False
theorem mo_isN {neg : Bool} : Mo2 (oIsN neg) := fun a b k k' w h => by cases b <;> first | exact h.elim | exact w _ h
theorem isNon_V {K : PySem.W.Frag} {x : V} {a : D} (h : Vw K G H x a) : decide (x = .non) = isNon a := by
  cases h with
  | fro r => cases r <;> rfl
  | own _ r => cases r <;> rfl
theorem opr_isN : OpR X (compareOp .Is) (rO2 X.K (pE X.K) (oIsN false)) := by
  intro pins s σ H x y v u Q I rx ry h
  obtain ⟨G, a, b, g, hx, hy, q⟩ := h
  cases b <;> first | exact q.elim | skip
  have ey := vw_non hy
  subst ey
  refine op_isN pins s σ H _ _ v u Q I rx ry ⟨rfl, ?_⟩
  rw [isNon_V hx]
  unfold oIsN at q
  dsimp only at q
  rw [xor_f] at q
  exact stay g q (.bl _)
theorem opr_notN : OpR X (compareOp .IsNot) (rO2 X.K (pE X.K) (oIsN true)) := by
  intro pins s σ H x y v u Q I rx ry h
  obtain ⟨G, a, b, g, hx, hy, q⟩ := h
  cases b <;> first | exact q.elim | skip
  have ey := vw_non hy
  subst ey
  refine op_notN pins s σ H _ _ v u Q I rx ry ⟨rfl, ?_⟩
  rw [isNon_V hx]
  unfold oIsN at q
  dsimp only at q
  rw [xor_t] at q
  exact stay g q (.bl _)
/-! in -/
def toV : D → V
  | .int i => .int i
  | .str x => .str x
  | .bool b => .bl b
  | _ => .non
def flatD : D → Bool
  | .none => true
  | .bool _ => true
  | .int _ => true
  | .str _ => true
  | _ => false
theorem flat_V {K : PySem.W.Frag} {x : V} {a : D} (h : Rp K G x a) (f : flatD a = true) : x = toV a ∧ flatV x = true := by
  cases h <;> first | exact ⟨rfl, rfl⟩ | cases f
theorem flat_Vs {K : PySem.W.Frag} : ∀ {xs : List V} {as : List D}, RpAll K G xs as → as.all flatD = true → xs = as.map toV ∧ xs.all flatV = true
  | _, _, .nil, _ => ⟨rfl, rfl⟩
  | _, _, .cons r rs, f => by
    rw [List.all_cons, Bool.and_eq_true] at f
    obtain ⟨h1, h2⟩ := flat_V r f.1
    obtain ⟨h3, h4⟩ := flat_Vs rs f.2
    exact ⟨by rw [h1, h3]; rfl, by rw [List.all_cons, h2, h4]; rfl⟩
def memD (a : D) (ds : List D) : Bool := ds.any fun e => eqV (toV e) (toV a)
def oIn (neg : Bool) : O2 := fun a b k => match b with
  | .dict ps => (kOf a).isSome = true ∧ fits ps a = true ∧ k (.bool ((dLook ps a).isSome != neg))
  | .list ds => if (flatD a && ds.all flatD) = true then k (.bool (memD a ds != neg)) else shp a ∧ shp (.list ds) ∧ k (.bool ((ds.any fun z => eqd z a) != neg))
  | .tuple _ ds => flatD a = true ∧ ds.all flatD = true ∧ k (.bool (memD a ds != neg))
  | .str z => match a with
    | .str x => match x.cps.toList with
      | [c] => k (.bool (decide (c ∈ z.cps.toList) != neg))
      | _ => False
    | _ => False
  | _ => False
theorem mo_in {neg : Bool} : Mo2 (oIn neg) := fun a b k k' w h => by
  cases b with
  | dict ps => exact ⟨h.1, h.2.1, w _ h.2.2⟩
  | tuple c ds => exact ⟨h.1, h.2.1, w _ h.2.2⟩
  | list ds =>
    unfold oIn at h ⊢
    dsimp only at h ⊢
    split
    · rename_i e
      rw [if_pos e] at h
      exact w _ h
    · rename_i e
      rw [if_neg e] at h
      exact ⟨h.1, h.2.1, w _ h.2.2⟩
  | str z =>
    cases a <;> first | exact h.elim | skip
    rename_i x
    unfold oIn at h ⊢
    dsimp only at h ⊢
    split at h
    · exact w _ h
    · exact h.elim
  | _ => exact h.elim
theorem str1 {x : Str} {c : Nat} (h : x.cps.toList = [c]) : x = ⟨#[c]⟩ := by
  obtain ⟨a⟩ := x
  have : a = #[c] := by
    apply Array.ext'
    exact h
  rw [this]
theorem opr_in (hu : X.A.units + 65 < cLine) : OpR X (compareOp .In) (rO2 X.K (pE X.K) (oIn false)) := by
  intro pins s σ H x y v u Q I rx ry h
  obtain ⟨G, a, b, g, hx, hy, q⟩ := h
  unfold oIn at q
  cases b with
  | dict ps =>
    obtain ⟨h1, h2, q⟩ := q
    obtain ⟨k, hk⟩ := Option.isSome_iff_exists.mp h1
    obtain ⟨p, r, rfl, dk, c⟩ := dk_of_vw I g hy hx hk h2
    cases ry
    refine dk_in (by omega) dk rx fun t => ⟨.bl _, H, I.tok _, rfl, ?_⟩
    rw [xor_f] at q
    rcases c with ⟨v', e, rfl, e2, _⟩ | ⟨rfl, e2⟩
    · rw [e2] at q; exact stay g q (.bl _)
    · rw [e2] at q; exact stay g q (.bl _)
  | tuple c ds =>
    obtain ⟨h1, h2, q⟩ := q
    obtain ⟨b, ys, rfl, _, sq, r2⟩ := vw_tup g hy
    have rx' := vw_rp g hx
    obtain ⟨ex, fx⟩ := flat_V rx' h1
    obtain ⟨ey, fy⟩ := flat_Vs r2 h2
    refine op_in_seq pins s σ H _ _ v u Q I rx ry ⟨b, ys, rfl, .inr sq, fx, fy, ?_⟩
    rw [xor_f] at q
    have : inV x ys = memD a ds := by subst ex ey; unfold inV memD; rw [List.any_map]; rfl
    rw [if_neg Bool.false_ne_true, this]
    exact stay g q (.bl _)
  | list ds =>
    obtain ⟨b, ys, rfl, sq, r2⟩ := vw_list g hy
    dsimp only at q
    split at q
    · rename_i e
      rw [Bool.and_eq_true] at e
      have rx' := vw_rp g hx
      obtain ⟨ex, fx⟩ := flat_V rx' e.1
      obtain ⟨ey, fy⟩ := flat_Vs r2 e.2
      refine op_in_seq pins s σ H _ _ v u Q I rx ry ⟨b, ys, rfl, .inl (.inl sq), fx, fy, ?_⟩
      rw [xor_f] at q
      have : inV x ys = memD a ds := by subst ex ey; unfold inV memD; rw [List.any_map]; rfl
      rw [if_neg Bool.false_ne_true, this]
      exact stay g q (.bl _)
    · rw [xor_f] at q
      exact op_inD hu pins s σ H _ _ v u Q I rx ry ⟨toPy a, toPys ds, rp_dp (vw_rp g hx) (SeqAt.canLay_of_shaped q.1), rp_dp (vw_rp g hy) (SeqAt.canLay_of_shaped q.2.1), q.1, q.2.1, by rw [any_py]; exact stay g q.2.2 (.bl _)⟩
  | str z =>
    cases a <;> first | exact q.elim | skip
    dsimp only at q
    split at q
    · rename_i x' c e
      have ex := vw_str hx
      have ey := vw_str hy
      subst ex ey
      rw [xor_f] at q
      exact op_in_sign pins s σ H _ _ v u Q I rx ry ⟨c, z, by rw [str1 e], rfl, stay g q (.bl _)⟩
    · exact q.elim
  | _ => exact q.elim
theorem opr_notIn (hu : X.A.units + 65 < cLine) : OpR X (compareOp .NotIn) (rO2 X.K (pE X.K) (oIn true)) := by
  intro pins s σ H x y v u Q I rx ry h
  obtain ⟨G, a, b, g, hx, hy, q⟩ := h
  unfold oIn at q
  cases b with
  | dict ps =>
    obtain ⟨h1, h2, q⟩ := q
    obtain ⟨k, hk⟩ := Option.isSome_iff_exists.mp h1
    obtain ⟨p, r, rfl, dk, c⟩ := dk_of_vw I g hy hx hk h2
    cases ry
    refine dk_notIn (by omega) dk rx fun t => ⟨.bl _, H, I.tok _, rfl, ?_⟩
    rw [xor_t] at q
    rcases c with ⟨v', e, rfl, e2, _⟩ | ⟨rfl, e2⟩
    · rw [e2] at q; exact stay g q (.bl _)
    · rw [e2] at q; exact stay g q (.bl _)
  | tuple c ds =>
    obtain ⟨h1, h2, q⟩ := q
    obtain ⟨b, ys, rfl, _, sq, r2⟩ := vw_tup g hy
    have rx' := vw_rp g hx
    obtain ⟨ex, fx⟩ := flat_V rx' h1
    obtain ⟨ey, fy⟩ := flat_Vs r2 h2
    refine op_notIn_seq pins s σ H _ _ v u Q I rx ry ⟨b, ys, rfl, .inr sq, fx, fy, ?_⟩
    rw [xor_t] at q
    have : inV x ys = memD a ds := by subst ex ey; unfold inV memD; rw [List.any_map]; rfl
    rw [if_pos rfl, this]
    exact stay g q (.bl _)
  | list ds =>
    obtain ⟨b, ys, rfl, sq, r2⟩ := vw_list g hy
    dsimp only at q
    split at q
    · rename_i e
      rw [Bool.and_eq_true] at e
      have rx' := vw_rp g hx
      obtain ⟨ex, fx⟩ := flat_V rx' e.1
      obtain ⟨ey, fy⟩ := flat_Vs r2 e.2
      refine op_notIn_seq pins s σ H _ _ v u Q I rx ry ⟨b, ys, rfl, .inl (.inl sq), fx, fy, ?_⟩
      rw [xor_t] at q
      have : inV x ys = memD a ds := by subst ex ey; unfold inV memD; rw [List.any_map]; rfl
      rw [if_pos rfl, this]
      exact stay g q (.bl _)
    · rw [xor_t] at q
      exact op_notInD hu pins s σ H _ _ v u Q I rx ry ⟨toPy a, toPys ds, rp_dp (vw_rp g hx) (SeqAt.canLay_of_shaped q.1), rp_dp (vw_rp g hy) (SeqAt.canLay_of_shaped q.2.1), q.1, q.2.1, by rw [any_py]; exact stay g q.2.2 (.bl _)⟩
  | str z =>
    cases a <;> first | exact q.elim | skip
    dsimp only at q
    split at q
    · rename_i x' c e
      have ex := vw_str hx
      have ey := vw_str hy
      subst ex ey
      rw [xor_t] at q
      exact op_notIn_sign pins s σ H _ _ v u Q I rx ry ⟨c, z, by rw [str1 e], rfl, stay g q (.bl _)⟩
    · exact q.elim
  | _ => exact q.elim
/-! subscripts -/
def oIx : O2 := fun a b k => match a with
  | .list xs => match b with
    | .int i => match atI xs i with
      | some d => k d
      | none => False
    | _ => False
  | .tuple _ xs => match b with
    | .int i => match atI xs i with
      | some d => k d
      | none => False
    | _ => False
  | .scr ns => match b with
    | .int i => match atI ns i with
      | some n => k (.int n)
      | none => False
    | _ => False
  | .str z => match b with
    | .int i => z.length ≤ sizeLine ∧ match atI z.cps.toList i with
      | some c => k (.str ⟨#[c]⟩)
      | none => False
    | _ => False
  | .dict ps => (kOf b).isSome = true ∧ fits ps b = true ∧ match dLook ps b with
    | some d => k d
    | none => False
  | _ => False
theorem mo_ix : Mo2 oIx := fun a b k k' w h => by
  unfold oIx at h ⊢
  cases a with
  | list xs =>
    cases b <;> first | exact h.elim | skip
    dsimp only at h ⊢
    split at h
    · exact w _ h
    · exact h.elim
  | tuple c xs =>
    cases b <;> first | exact h.elim | skip
    dsimp only at h ⊢
    split at h
    · exact w _ h
    · exact h.elim
  | scr ns =>
    cases b <;> first | exact h.elim | skip
    dsimp only at h ⊢
    split at h
    · exact w _ h
    · exact h.elim
  | str z =>
    cases b <;> first | exact h.elim | skip
    dsimp only at h ⊢
    refine ⟨h.1, ?_⟩
    have h := h.2
    split at h
    · exact w _ h
    · exact h.elim
  | dict ps =>
    dsimp only at h ⊢
    refine ⟨h.1, h.2.1, ?_⟩
    have h := h.2.2
    split at h
    · exact w _ h
    · exact h.elim
  | _ => exact h.elim
theorem at_rps {K : PySem.W.Frag} {xs : List V} {ds : List D} {i : Int} {d : D} (r : RpAll K G xs ds) (h : atI ds i = some d) : ∃ v, atI xs i = some v ∧ Rp K G v d := by
  unfold atI at h ⊢
  rw [rps_len r]
  obtain ⟨j, hj, e⟩ := Option.bind_eq_some_iff.mp h
  obtain ⟨v, hv, rv⟩ := rps_get' r e
  exact ⟨v, Option.bind_eq_some_iff.mpr ⟨j, hj, hv⟩, rv⟩
theorem ixr_data (hu : X.A.units + 1 < cLine) : IxR X (rO2 X.K (pE X.K) oIx) := by
  intro value slice pins s σ H x y v u Q I rx ry h hs
  obtain ⟨G, a, b, g, hx, hy, q⟩ := h
  unfold oIx at q
  cases a with
  | list xs =>
    cases b <;> first | exact q.elim | skip
    dsimp only at q
    split at q
    · rename_i d e
      obtain ⟨p, ys, rfl, rd, ra⟩ := vw_list g hx
      have ey := vw_int hy
      subst ey
      obtain ⟨w, hw, rw'⟩ := at_rps ra e
      exact ix_list value slice pins s σ H _ _ v u Q I rx ry ⟨p, ys, _, w, rfl, rfl, .inl rd, hw, stay g q rw'⟩ hs
    · exact q.elim
  | tuple c xs =>
    cases b <;> first | exact q.elim | skip
    dsimp only at q
    split at q
    · rename_i d e
      obtain ⟨p, ys, rfl, _, sq, ra⟩ := vw_tup g hx
      have ey := vw_int hy
      subst ey
      obtain ⟨w, hw, rw'⟩ := at_rps ra e
      exact ix_tup value slice pins s σ H _ _ v u Q I rx ry ⟨p, ys, _, w, rfl, rfl, sq, hw, stay g q rw'⟩ hs
    · exact q.elim
  | scr ns =>
    cases b <;> first | exact q.elim | skip
    dsimp only at q
    split at q
    · rename_i n e
      obtain ⟨p, rfl, sq⟩ := vw_scr g hx
      have ey := vw_int hy
      subst ey
      refine ix_list value slice pins s σ H _ _ v u Q I rx ry ⟨p, ns.map V.int, _, .int n, rfl, rfl, sq, ?_, stay g q (.int _)⟩ hs
      unfold atI at e ⊢
      rw [List.length_map]
      obtain ⟨j, hj, e⟩ := Option.bind_eq_some_iff.mp e
      exact Option.bind_eq_some_iff.mpr ⟨j, hj, by rw [List.getElem?_map, e]; rfl⟩
    · exact q.elim
  | str z =>
    cases b <;> first | exact q.elim | skip
    dsimp only at q
    obtain ⟨hz, q⟩ := q
    split at q
    · rename_i d e
      have ex := vw_str hx
      have ey := vw_int hy
      subst ex ey
      exact ix_str value slice pins s σ H _ _ v u Q I rx ry ⟨z, _, _, rfl, rfl, hz, e, stay g q (.str _)⟩ hs
    · exact q.elim
  | dict ps =>
    obtain ⟨h1, h2, q⟩ := q
    obtain ⟨k, hk⟩ := Option.isSome_iff_exists.mp h1
    obtain ⟨p, r, rfl, dk, c⟩ := dk_of_vw I g hx hy hk h2
    cases rx
    rcases c with ⟨v', e, rfl, e2, re⟩ | ⟨rfl, e2⟩
    · rw [e2] at q
      obtain ⟨hT, _⟩ := dk.typeIs
      unfold subscriptTail
      refine wpAny_bind ?_
      rw [getitemInPython_of_ne hT.not_modules]
      refine wpAny_bind (wpAny_specialOf hT PySem.F.slot_dict_getitem.lookup ?_)
      have fin : wpAny (model X.prog X.w) X.A (subscripted slice false (.ref p) u) (fun r s₃ => wpAny (model X.prog X.w) X.A (letTemporaryGo value (.ref p) r >>= fun _ => pure r) (EP X pins σ Q) X.xe s₃) X.xe s := by
        rw [hs]
        exact wpAny_operating (dk_get hu dk ry fun w' t rw' => wpAny_bind (wpAny_letTemporaryGo (wpAny_pure ⟨v', H, I.tok _, rw', stay g q re⟩)))
      first
        | exact wpAny_pure (wpAny_bind fin)
        | exact wpAny_bind (wpAny_pure (wpAny_bind fin))
        | exact wpAny_bind fin
    · rw [e2] at q
      exact q.elim
  | _ => exact q.elim
end
end Dl

set_option Elab.async false
set_option linter.all false
set_option maxRecDepth 100000
set_option maxHeartbeats 4000000
namespace Dl
open PySem PySem.Spec PyProof.Rows L2 Br
section
variable {K : PySem.W.Frag} {X : Cx} {a b c : Expr} {ma mb mc : ME} {pos : Pos}
/-! ### the rules, by name -/
theorem se_add (hK : X.K = K) (ha : SE K (fE K) X a ma) (hb : SE K (fV K) X b mb) : SE K (fE K) X (.BinOp a .Add b pos) (mOp oAdd ma mb) := by subst hK; exact se_op opr_add (op2_of mo_add) embE ha hb
theorem se_sub (hK : X.K = K) (ha : SE K (fE K) X a ma) (hb : SE K (fV K) X b mb) : SE K (fE K) X (.BinOp a .Sub b pos) (mOp oSub ma mb) := by subst hK; exact se_op opr_sub (op2_of mo_sub) embE ha hb
theorem se_mul (hK : X.K = K) (ha : SE K (fE K) X a ma) (hb : SE K (fV K) X b mb) : SE K (fE K) X (.BinOp a .Mult b pos) (mOp oMul ma mb) := by subst hK; exact se_op opr_mul (op2_of mo_mul) embE ha hb
theorem se_mod (hK : X.K = K) (ha : SE K (fE K) X a ma) (hb : SE K (fV K) X b mb) : SE K (fE K) X (.BinOp a .Mod b pos) (mOp oMod ma mb) := by subst hK; exact se_op opr_mod (op2_of mo_mod) embE ha hb
theorem se_fdiv (hK : X.K = K) (ha : SE K (fE K) X a ma) (hb : SE K (fV K) X b mb) : SE K (fE K) X (.BinOp a .FloorDiv b pos) (mOp oFdiv ma mb) := by subst hK; exact se_op opr_fdiv (op2_of mo_fdiv) embE ha hb
theorem se_pow (hK : X.K = K) (ha : SE K (fE K) X a ma) (hb : SE K (fV K) X b mb) : SE K (fE K) X (.BinOp a .Pow b pos) (mOp oPow ma mb) := by subst hK; exact se_op opr_pow (op2_of mo_pow) embE ha hb
theorem se_neg (hK : X.K = K) (ha : SE K (fV K) X a ma) : SE K (fE K) X (.UnaryOp .USub a pos) (mUn oNeg ma) := by subst hK; exact se_un unr_neg (op1_of mo_neg) embE ha
/-- a comparison: its rule, for a test or a value -/
structure Cmp (K : PySem.W.Frag) (X : Cx) (op : CmpOp) (o : O2) : Prop where
  mo : Mo2 o
  opr : OpR X (compareOp op) (rO2 K (pE K) o)
theorem c_eq (hK : X.K = K) (hu : X.A.units + 64 < cLine) : Cmp K X .Eq oEq := by subst hK; exact ⟨mo_eq, opr_eq hu⟩
theorem c_ne (hK : X.K = K) (hu : X.A.units + 64 < cLine) : Cmp K X .NotEq oNe := by subst hK; exact ⟨mo_ne, opr_ne hu⟩
theorem c_lt (hK : X.K = K) : Cmp K X .Lt oLt := by subst hK; exact ⟨mo_cmp, opr_lt⟩
theorem c_le (hK : X.K = K) : Cmp K X .LtE oLe := by subst hK; exact ⟨mo_cmp, opr_le⟩
theorem c_gt (hK : X.K = K) : Cmp K X .Gt oGt := by subst hK; exact ⟨mo_cmp, opr_gt⟩
theorem c_ge (hK : X.K = K) : Cmp K X .GtE oGe := by subst hK; exact ⟨mo_cmp, opr_ge⟩
theorem c_is (hK : X.K = K) : Cmp K X .Is (oIsN false) := by subst hK; exact ⟨mo_isN, opr_isN⟩
theorem c_isNot (hK : X.K = K) : Cmp K X .IsNot (oIsN true) := by subst hK; exact ⟨mo_isN, opr_notN⟩
theorem c_in (hK : X.K = K) (hu : X.A.units + 65 < cLine) : Cmp K X .In (oIn false) := by subst hK; exact ⟨mo_in, opr_in hu⟩
theorem c_notIn (hK : X.K = K) (hu : X.A.units + 65 < cLine) : Cmp K X .NotIn (oIn true) := by subst hK; exact ⟨mo_in, opr_notIn hu⟩
theorem se_c {op : CmpOp} {o : O2} (h : Cmp K X op o) (ha : SE K (fE K) X a ma) (hb : SE K (fV K) X b mb) (hm : behindInMarks op b = false) : SE K (fE K) X (.Compare a [op] [b] pos) (mOp o ma mb) := se_cmp h.opr (op2_of h.mo) embE ha hb hm
theorem st_c {op : CmpOp} {o : O2} (h : Cmp K X op o) (ha : SE K (fE K) X a ma) (hb : SE K (fV K) X b mb) (hm : behindInMarks op b = false) : ST K X (.Compare a [op] [b] pos) (mTest (mOp o ma mb)) := st_cmp h.opr (op2_of h.mo) ha hb hm
/-- a < b < c -/
def mChain (o o' : O2) (ma mb mc : ME) : ME := fun ρ k => ma ρ fun da ρ1 => mb ρ1 fun db ρ2 => o da db fun d => match d with
  | .bool true => mc ρ2 fun dc ρ3 => o' db dc fun e => k e ρ3
  | .bool false => k (.bool false) ρ2
  | _ => False
theorem se_item (hK : X.K = K) (hu : X.A.units + 1 < cLine) (ha : SE K (fE K) X a ma) (hb : SE K (fV K) X b mb) (hs : PlainIx b) : SE K (fE K) X (.Subscript a b pos) (mOp oIx ma mb) := by subst hK; exact se_ix (ixr_data hu) (op2_of mo_ix) embE ha hb hs
theorem se_itemO {i : Nat} (hK : X.K = K) (hu : X.A.units + 1 < cLine) (ha : PE X a (tVar i)) (hb : SE K (fV K) X b mb) (hs : PlainIx b) : SE K (fE K) X (.Subscript a b pos) (mOpO oIx i mb) := by subst hK; exact se_ixO (ixr_data hu) (op2_of mo_ix) embE ha hb hs
/-- a constant of the module -/
theorem se_glob {x : Str} {v : V} {u : Value} {d : D} {p : Pos} (hg : Gl X x) (hm : X.mg x = some u) (r : RelV v u) (h : ∀ G, Rp K G v d) (hd : (x == ("__debug__" : Str)) = false := by decide) : SE K (fE K) X (.Name x p) (mC d) := se_const (pe_glob hg hm r hd) h
/-! ### d.get -/
def mGet2 (ma mb mc : ME) : ME := fun ρ k => ma ρ fun da ρ1 => match da with
  | .dict ps => mb ρ1 fun db ρ2 => mc ρ2 fun dc ρ3 => (kOf db).isSome = true ∧ fits ps db = true ∧ k ((dLook ps db).getD dc) ρ3
  | _ => False
def mGet1 (ma mb : ME) : ME := fun ρ k => ma ρ fun da ρ1 => match da with
  | .dict ps => mb ρ1 fun db ρ2 => (kOf db).isSome = true ∧ fits ps db = true ∧ k ((dLook ps db).getD .none) ρ2
  | _ => False
/-- of an owned one -/
def mGet2O (i : Nat) (mb mc : ME) : ME := fun ρ k => mOwn i ρ fun da _ => match da with
  | .dict _ => mb ρ fun db ρ2 => mc ρ2 fun dc ρ3 => mOwn i ρ3 fun da _ => match da with
    | .dict ps => (kOf db).isSome = true ∧ fits ps db = true ∧ k ((dLook ps db).getD dc) ρ3
    | _ => False
  | _ => False
theorem vw_isD {G H : Hp} {x : V} {ps : List (D × D)} (g : Same G H) (h : Vw K G H x (.dict ps)) : ∃ a, x = .ref a ∧ IsD H a := by
  obtain ⟨a, e, c⟩ := vw_dict g h
  rcases c with ⟨_, _, _, rd, _⟩ | ⟨_, _, _, rd, _⟩
  · exact ⟨a, e, .inl ⟨_, rd⟩⟩
  · exact ⟨a, e, .inr ⟨_, rd⟩⟩
/-- what d.get(y, z) asks of the values -/
def rGet (K : PySem.W.Frag) (x y z : V) (H : Hp) (Q : VK) : Prop := ∃ G ps db dc, Same G H ∧ Vw K G H x (.dict ps) ∧ Rp K G y db ∧ Rp K G z dc ∧ (kOf db).isSome = true ∧ fits ps db = true ∧ ∀ v, Rp K G v ((dLook ps db).getD dc) → Q v H
theorem get_run {pins : List (Addr × Obj)} {σ : L2.St} {H : Hp} {s : Shared} {Q : VK} {x y z : V} {u w : Value} {p : Addr} (hu : X.A.units + 1 < cLine) (I : Inv X pins σ H s) (h : rGet X.K x y z H Q) (ex : x = .ref p) (ry : RelV y u) (rz : RelV z w) :
    wpAny (model X.prog X.w) X.A (call (.builtin "dict.get") [.ref p, u, w]) (EP X pins σ Q) X.xe s := by
  subst ex
  obtain ⟨G, ps, db, dc, g, hx, hy, hz, h1, h2, q⟩ := h
  obtain ⟨k, hk⟩ := Option.isSome_iff_exists.mp h1
  obtain ⟨p', r, e, dk, c⟩ := dk_of_vw I g hx (.fro hy) hk h2
  cases e
  refine dk_get2 hu dk ry rz fun w' t rw' => ⟨r.getD z, H, I.tok _, rw', ?_⟩
  rcases c with ⟨v', e, rfl, e2, re⟩ | ⟨rfl, e2⟩
  · rw [e2] at q; exact q v' re
  · rw [e2] at q; exact q z hz
def tGet2 (K : PySem.W.Frag) (td ty tz : TE) : TE := fun σ H Q => td σ H fun x H1 => (∃ a, x = .ref a ∧ IsD H1 a) ∧ ty σ H1 fun y H2 => tz σ H2 fun z H3 => rGet K x y z H3 Q
theorem pe_getD {e f : Expr} {apos cpos : Pos} {td ty tz : TE} (hu : X.A.units + 1 < cLine) (ho : PE X a td) (he : PE X e ty) (hf : PE X f tz) (m : M2 X a "get" apos e f cpos) : PE X (.Call (.Attribute a "get" apos) [e, f] [] cpos) (tGet2 X.K td ty tz) := by
  constructor
  intro pins s σ H Q I h
  refine wpAny_Call_method m.base m.few m.line PySem.F.plainAttrs_dict PySem.F.slot_dict_get PySem.F.type_dict_get (thn (ho.run pins s σ H _ I h) fun u s1 hh => ?_)
  obtain ⟨x, H1, I1, rx, ⟨p, ex, dd⟩, q1⟩ := hh
  subst ex
  obtain rfl : u = Value.ref p := rx
  obtain ⟨t1, t2, _⟩ := isD_at I1 dd
  refine ⟨t1, t2, ?_⟩
  rw [m.trees]
  refine Calls.callWith_builtin rfl (Calls.evalArgs_plain (Calls.spliced_cons (thn (he.run pins s1 σ H1 _ I1 q1) fun iv s2 hh2 => ?_)))
  obtain ⟨y, H2, I2, ry, q2⟩ := hh2
  refine Calls.spliced_cons (thn (hf.run pins s2 σ H2 _ I2 q2) fun fv s3 hh3 => Calls.spliced_nil ?_)
  obtain ⟨z, H3, I3, rz, q3⟩ := hh3
  exact get_run hu I3 q3 rfl ry rz
theorem se_get2 {e f : Expr} {apos cpos : Pos} (hK : X.K = K) (hu : X.A.units + 1 < cLine) (ha : SE K (fE K) X a ma) (hb : SE K (fE K) X e mb) (hc : SE K (fE K) X f mc) (m : M2 X a "get" apos e f cpos) : SE K (fE K) X (.Call (.Attribute a "get" apos) [e, f] [] cpos) (mGet2 ma mb mc) := by
  subst hK
  refine ⟨fun ρ k k' w => ha.mono ρ _ _ fun da ρ1 q => ?_, pe_weak (pe_getD hu ha.pe hb.pe hc.pe m) fun σ H Q ⟨G, ρ, R, q⟩ => ⟨G, ρ, R, ha.mono ρ _ _ (fun da ρ1 q x G1 H1 R1 l1 rx => ?_) q⟩⟩
  · cases da <;> first | exact q.elim | exact hb.mono ρ1 _ _ (fun db ρ2 => hc.mono ρ2 _ _ fun dc ρ3 q => ⟨q.1, q.2.1, w _ _ q.2.2⟩) q
  · cases da <;> first | exact q.elim | skip
    refine ⟨vw_isD R1.gh (.fro rx), G1, ρ1, R1, hb.mono ρ1 _ _ (fun db ρ2 q y G2 H2 R2 l2 ry => ⟨G2, ρ2, R2, hc.mono ρ2 _ _ (fun dc ρ3 q z G3 H3 R3 l3 rz => ?_) q⟩) q⟩
    exact ⟨G3, _, db, dc, R3.gh, .fro (rp_same (l2.trans l3).st.gg rx), rp_same l3.st.gg ry, rz, q.1, q.2.1, fun v rv => q.2.2 v G3 H3 R3 ((l1.trans l2).trans l3) rv⟩
theorem se_get2O {i : Nat} {e f : Expr} {apos cpos : Pos} (hK : X.K = K) (hu : X.A.units + 1 < cLine) (ha : PE X a (tVar i)) (hb : SE K (fE K) X e mb) (hc : SE K (fE K) X f mc) (m : M2 X a "get" apos e f cpos) : SE K (fE K) X (.Call (.Attribute a "get" apos) [e, f] [] cpos) (mGet2O i mb mc) := by
  subst hK
  refine ⟨fun ρ k k' w => mo_own ρ _ _ fun da _ q => ?_, pe_weak (pe_getD hu ha hb.pe hc.pe m) fun σ H Q ⟨G, ρ, R, q⟩ => ?_⟩
  · cases da <;> first | exact q.elim | skip
    refine hb.mono ρ _ _ (fun db ρ2 => hc.mono ρ2 _ _ fun dc ρ3 q => mo_own ρ3 _ _ (fun da _ q => ?_) q) q
    cases da <;> first | exact q.elim | exact ⟨q.1, q.2.1, w _ _ q.2.2⟩
  · obtain ⟨x, da, hx, vx, q⟩ := own_there R q
    cases da <;> first | exact q.elim | skip
    refine ⟨x, hx, vw_isD R.gh vx, G, ρ, R, hb.mono ρ _ _ (fun db ρ2 q y G2 H2 R2 l2 ry => ⟨G2, ρ2, R2, hc.mono ρ2 _ _ (fun dc ρ3 q z G3 H3 R3 l3 rz => ?_) q⟩) q⟩
    obtain ⟨x', da, hx', vx', q⟩ := own_there R3 q
    rw [hx] at hx'
    cases hx'
    cases da <;> first | exact q.elim | skip
    exact ⟨G3, _, db, dc, R3.gh, vx', rp_same l3.st.gg ry, rz, q.1, q.2.1, fun v rv => q.2.2 v G3 H3 R3 (l2.trans l3) rv⟩
/-! ### calls of built-ins -/
variable {π : PF} {φ : Fl} {x : Str} {p : Pos}
theorem t_1 {r : List V → Hp → VK → Prop} {o : O1} (hr : ∀ y H Q, rO1 K π o y H Q → r [y] H Q) (mo : Mo1 o) (em : Emb K π φ) (ha : Mo ma) (σ : L2.St) (H : Hp) (Q : VK) (h : tE K φ (mUn o ma) σ H Q) : tCB r (tCons (tE K (fV K) ma) tNil) σ H Q := by
  obtain ⟨G, ρ, R, h⟩ := h
  refine ⟨G, ρ, R, ha ρ _ _ (fun da ρ1 q y G1 H1 R1 l1 ry => hr y H1 Q ⟨G1, da, R1.gh, ry, mo _ _ _ (fun d q v G2 H2 gh st pv => ?_) q⟩) h⟩
  exact q v G2 H2 (R1.pure st gh) (l1.trans (.pure st)) (em σ ρ ρ1 G H G1 H1 G2 H2 v d R1 l1 pv)
theorem se_b1 {id : String} {r : List V → Hp → VK → Prop} {o : O1} (hc : CallR X (.builtin id) r) (hr : ∀ y H Q, rO1 K π o y H Q → r [y] H Q) (mo : Mo1 o) (em : Emb K π φ) (hg : Gl X x) (hm : X.mg x = none) (hv : bootBuiltins x = some (.builtin id)) (ha : SE K (fV K) X a ma) (hs : starEach [a] X.env = [(false, eval a X.env)] := by rfl)
    (hn : x ≠ "__name__" := by decide) (hdb : (x == ("__debug__" : Str)) = false := by decide) (hpl : (backTo pos (starEach [] X.env)).any (·.1) = false := by rfl) : SE K φ X (.Call (.Name x p) [a] [] pos) (mUn o ma) :=
  ⟨mo_un mo ha.mono, pe_weak (pe_callB hc hg hm hv (pa_cons ha.pe pa_nil hs) hn hdb hs hpl) (t_1 hr mo em ha.mono)⟩
theorem se_t1 {T : String} {r : List V → Hp → VK → Prop} {o : O1} (hc : CallR X (.type T) r) (hr : ∀ y H Q, rO1 K π o y H Q → r [y] H Q) (mo : Mo1 o) (em : Emb K π φ) (hg : Gl X x) (hm : X.mg x = none) (hv : bootBuiltins x = some (.type T)) (ha : SE K (fV K) X a ma) (hs : starEach [a] X.env = [(false, eval a X.env)] := by rfl)
    (hn : x ≠ "__name__" := by decide) (hdb : (x == ("__debug__" : Str)) = false := by decide) (hpl : (backTo pos (starEach [] X.env)).any (·.1) = false := by rfl) : SE K φ X (.Call (.Name x p) [a] [] pos) (mUn o ma) :=
  ⟨mo_un mo ha.mono, pe_weak (pe_callTy hc hg hm hv (pa_cons ha.pe pa_nil hs) hn hdb hs hpl) (t_1 hr mo em ha.mono)⟩
theorem t_n {r : List V → Hp → VK → Prop} {o : On} {mr : MA} (hr : ∀ ys H Q, rOn K π o ys H Q → r ys H Q) (mo : Mon o) (em : Emb K π φ) (ha : Mo mr) (σ : L2.St) (H : Hp) (Q : VK) (h : tE K φ (mOn o mr) σ H Q) : tCB r (tA K mr) σ H Q := by
  obtain ⟨G, ρ, R, h⟩ := h
  refine ⟨G, ρ, R, ha ρ _ _ (fun ds ρ1 q ys G1 H1 R1 l1 ry => hr ys H1 Q ⟨G1, ds, R1.gh, ry, mo _ _ _ (fun d q v G2 H2 gh st pv => ?_) q⟩) h⟩
  exact q v G2 H2 (R1.pure st gh) (l1.trans (.pure st)) (em σ ρ ρ1 G H G1 H1 G2 H2 v d R1 l1 pv)
theorem se_bn {id : String} {r : List V → Hp → VK → Prop} {o : On} {mr : MA} {es : List Expr} (hc : CallR X (.builtin id) r) (hr : ∀ ys H Q, rOn K π o ys H Q → r ys H Q) (mo : Mon o) (em : Emb K π φ) (hg : Gl X x) (hm : X.mg x = none) (hv : bootBuiltins x = some (.builtin id)) (ha : SA K X (a :: es) mr)
    (hn : x ≠ "__name__" := by decide) (hdb : (x == ("__debug__" : Str)) = false := by decide) (he : starEach (a :: es) X.env = (false, eval a X.env) :: starEach es X.env := by rfl) (hpl : (backTo pos (starEach es X.env)).any (·.1) = false := by rfl) : SE K φ X (.Call (.Name x p) (a :: es) [] pos) (mOn o mr) :=
  ⟨fun ρ k k' w => ha.mono ρ _ _ fun ds ρ1 => mo _ _ _ fun d => w d ρ1, pe_weak (pe_callB hc hg hm hv ha.pa hn hdb he hpl) (t_n hr mo em ha.mono)⟩
end
end Dl

set_option Elab.async false
set_option linter.all false
set_option maxRecDepth 100000
set_option maxHeartbeats 4000000
namespace Dl
open PySem PySem.Spec PyProof.Rows L2 Br
/-! ### a def is worth what its body is worth -/
def Fof (np m n : Nat) (b : MS) : Fs := fun cs k => cs.length = np ∧ ∃ k0 : D → List Cell → Prop, (∀ d c, k0 d c → k d c) ∧ b { nx := fun ρ' => k0 .none (ρ'.take n), rt := fun d ρ' => k0 d (ρ'.take n) } (cs ++ List.replicate m .un)
theorem Fof.mo {np m n : Nat} {b : MS} : ∀ cs (k k' : D → List Cell → Prop), (∀ d cs', k d cs' → k' d cs') → Fof np m n b cs k → Fof np m n b cs k' := fun cs k k' w h => by
  obtain ⟨h1, k0, h2, h3⟩ := h
  exact ⟨h1, k0, fun d c z => w d c (h2 d c z), h3⟩
theorem Fof.mk {np m n : Nat} {b : MS} {cs : List Cell} {k : D → List Cell → Prop} (h : cs.length = np) (q : b { nx := fun ρ' => k .none (ρ'.take n), rt := fun d ρ' => k d (ρ'.take n) } (cs ++ List.replicate m .un)) : Fof np m n b cs k := ⟨h, k, fun _ _ z => z, q⟩
structure FnD (P : Program) (w : World) (K : PySem.W.Frag) (mg : Str → Option Value) (base : Heap) (k : Nat) (f : Addr) (fd : FuncData) (ps : List Str) (n : Nat) (F : Fs) : Prop where
  ok : FnG P w K mg base CX0 k f fd ps (spD K ps.length n F)
  mo : ∀ cs (k k' : D → List Cell → Prop), (∀ d cs', k d cs' → k' d cs') → F cs k → F cs k'
  ln : ∀ cs k, F cs k → cs.length = ps.length
  le : n ≤ ps.length
section
variable {P : Program} {w : World} {K : PySem.W.Frag} {mg : Str → Option Value} {base : Heap} {k : Nat} {f : Addr} {fd : FuncData} {ps : List Str}
theorem fn_of {x qual : Str} {st : Stmt} {N : List Str} {n np m : Nat} {b : MS} (Fu : Fun K x qual st f fd) (S : FnScope N ps (defScope st)) (hn : n ≤ ps.length) (hp : ps.length = np) (hm : N.length - ps.length = m)
    (body : ∀ (cdv : Value) (Ar : Around) (out : List PySem.Env) (s0 : Shared) (H : Hp) (E : XK), Bare Ar → Room k (Ar.deeper (envOfC qual (defScope st) s0.heap.objs.size f cdv)) →
      SB K n (cxOf CX0 P w K mg base N qual (defScope st) f cdv Ar out s0 H E).nox (defBody st) b) : FnD P w K mg base (k + 1) f fd ps n (Fof np m n b) := by
  subst hp hm
  refine ⟨fn_ok Fu S hn fun cdv Ar out s0 H E hG hr => ⟨b, body cdv Ar out s0 H E hG hr, fun cs k hl h => ?_⟩, Fof.mo, fun cs k h => h.1, hn⟩
  obtain ⟨_, k0, w, q⟩ := h
  exact (body cdv Ar out s0 H E hG hr).mono _ { nx := fun ρ' => k0 .none (ρ'.take n), rt := fun d ρ' => k0 d (ρ'.take n) } _ (fun ρ' => w _ _) (fun d ρ' => w _ _) (fun _ z => z) (fun _ z => z) q
end
section
variable {K : PySem.W.Frag} {X : Cx} {a : Expr} {es : List Expr} {mr : MR}
theorem se_callD {F : Fs} {n k j : Nat} {f : Addr} {fd : FuncData} {ps : List Str} {x : Str} {p pos : Pos} (Fn : FnD X.prog X.w K X.mg X.base j f fd ps n F) (hK : X.K = K) (hG : Bare X.A) (hr : Room k X.A) (hj : j ≤ k) (hg : Gl X x) (hm : X.mg x = some (.ref f)) (hk : PySem.W.keepIn K (.ref f) = true) (hb : Binds K fd ps []) (ha : SR K X (a :: es) mr)
    (hdb : (x == ("__debug__" : Str)) = false := by decide) (he : starEach (a :: es) X.env = (false, eval a X.env) :: starEach es X.env := by rfl) (hpl : (backTo pos (starEach es X.env)).any (·.1) = false := by rfl) : SE K (fE K) X (.Call (.Name x p) (a :: es) [] pos) (mCall F n mr) := by
  subst hK
  exact se_call Fn.ok Fn.mo Fn.ln Fn.le hG (hr.mono hj) hg hm hk hb ha hdb he hpl
theorem Room.u65 {k : Nat} {A : Around} (r : Room k A) : A.units + 65 < cLine := by have := r.un; omega
theorem Room.u1 {k : Nat} {A : Around} (r : Room k A) : A.units + 1 < cLine := by have := r.un; omega
/-! ### builtins -/
def oLen : O1 := fun a k => match a with
  | .str z => z.length ≤ sizeLine ∧ k (.int z.length)
  | .list ds => k (.int ds.length)
  | .tuple _ ds => k (.int ds.length)
  | .dict ps => k (.int ps.length)
  | .scr ns => k (.int ns.length)
  | _ => False
theorem mo_len : Mo1 oLen := fun a k k' w h => by cases a <;> first | exact h.elim | exact w _ h | exact ⟨h.1, w _ h.2⟩
theorem callr_len : CallR X (.builtin "len") (fun xs H Q => ∃ x, xs = [x] ∧ rO1 X.K (pE X.K) oLen x H Q) := by
  intro pins s σ H xs us Q I r h
  obtain ⟨x, rfl, G, d, g, hx, q⟩ := h
  cases d <;> first | exact q.elim | skip
  · have ex := vw_str hx
    subst ex
    exact call_len_str pins s σ H _ us Q I r ⟨_, rfl, q.1, stay g q.2 (.int _)⟩
  · obtain ⟨p, ys, rfl, rd, ra⟩ := vw_list g hx
    refine call_len_seq pins s σ H _ us Q I r ⟨p, ys, rfl, .inl (.inl rd), ?_⟩
    rw [rps_len ra]; exact stay g q (.int _)
  · obtain ⟨p, ys, rfl, _, sq, ra⟩ := vw_tup g hx
    refine call_len_seq pins s σ H _ us Q I r ⟨p, ys, rfl, .inr sq, ?_⟩
    rw [rps_len ra]; exact stay g q (.int _)
  · obtain ⟨p, rfl, c⟩ := vw_dict g hx
    obtain ⟨u, rfl, rx⟩ := vals1 r
    cases rx
    rcases c with ⟨ks, xs, ds, rd, hl, ra, rfl⟩ | ⟨ks, xs, ds, rd, hl, ra, rfl⟩
    · refine d_len I rd fun t s' I' => ⟨.int _, H, I', ⟨_, rfl⟩, ?_⟩
      have e := rps_len ra
      have e2 : (ks.zip xs).length = ((ks.map keyD).zip ds).length := by simp; omega
      rw [e2]; exact stay g q (.int _)
    · obtain ⟨z, hd, zs, rel, dd⟩ := dt_rd I.hok rd
      have hl2 := Paired.length rel
      have e := rps_len ra
      have e2 : zs.length = ((ks.map fun k => D.tuple .mad (k.map keyD)).zip ds).length := by rw [← hl2]; simp; omega
      refine call_len_dictH hd dd (by rw [← hl2]; rw [sizeLine_eq] at z; omega) ?_
      rw [e2]
      exact ⟨.int _, H, I.tok _, ⟨_, rfl⟩, stay g q (.int _)⟩
  · obtain ⟨p, rfl, sq⟩ := vw_scr g hx
    refine call_len_seq pins s σ H _ us Q I r ⟨p, _, rfl, .inl sq, ?_⟩
    rw [List.length_map]; exact stay g q (.int _)
theorem se_len {ma : ME} {p pos : Pos} (hK : X.K = K) (hg : Gl X "len") (hm : X.mg "len" = none) (ha : SE K (fV K) X a ma) (hs : starEach [a] X.env = [(false, eval a X.env)] := by rfl) (hpl : (backTo pos (starEach [] X.env)).any (·.1) = false := by rfl) :
    SE K (fE K) X (.Call (.Name "len" p) [a] [] pos) (mUn oLen ma) := by
  subst hK
  exact se_b1 callr_len (fun y H Q h => ⟨y, rfl, h⟩) mo_len embE hg hm PySem.boot_len ha hs (by decide) (by decide) hpl
def oMax : On := fun as k => match as with
  | [.int i, .int j] => k (.int (if j > i then j else i))
  | _ => False
def oMin : On := fun as k => match as with
  | [.int i, .int j] => k (.int (if j < i then j else i))
  | _ => False
theorem two_ints {P : Int → Int → Prop} {as : List D} (h : match (motive := List D → Prop) as with | [.int i, .int j] => P i j | _ => False) : ∃ i j, as = [.int i, .int j] ∧ P i j := by
  split at h
  · exact ⟨_, _, rfl, h⟩
  · exact h.elim
theorem mo_max : Mon oMax := fun as k k' w h => by
  obtain ⟨i, j, rfl, h⟩ := two_ints h
  exact w _ h
theorem mo_min : Mon oMin := fun as k k' w h => by
  obtain ⟨i, j, rfl, h⟩ := two_ints h
  exact w _ h
theorem rps2 {G : Hp} {xs : List V} {a b : D} (h : RpAll K G xs [a, b]) : ∃ x y, xs = [x, y] ∧ Rp K G x a ∧ Rp K G y b := by
  cases h with
  | cons r rs => cases rs with
    | cons r2 rs2 => cases rs2; exact ⟨_, _, rfl, r, r2⟩
theorem se_max {es : MA} {b : Expr} {p pos : Pos} (hK : X.K = K) (hc : X.calm = true) (hg : Gl X "max") (hm : X.mg "max" = none) (ha : SA K X [a, b] es) (he : starEach [a, b] X.env = (false, eval a X.env) :: starEach [b] X.env := by rfl) (hpl : (backTo pos (starEach [b] X.env)).any (·.1) = false := by rfl) :
    SE K (fE K) X (.Call (.Name "max" p) [a, b] [] pos) (mOn oMax es) := by
  refine se_bn (π := pE K) (call_max2 hc) (fun ys H Q h => ?_) mo_max embE hg hm (by decide +kernel) ha (by decide) (by decide) he hpl
  obtain ⟨G, as, g, r, q⟩ := h
  obtain ⟨i, j, rfl, q⟩ := two_ints q
  obtain ⟨x, y, rfl, r1, r2⟩ := rps2 r
  cases r1
  cases r2
  exact ⟨i, j, rfl, stay g q (.int _)⟩
theorem se_min {es : MA} {b : Expr} {p pos : Pos} (hK : X.K = K) (hc : X.calm = true) (hg : Gl X "min") (hm : X.mg "min" = none) (ha : SA K X [a, b] es) (he : starEach [a, b] X.env = (false, eval a X.env) :: starEach [b] X.env := by rfl) (hpl : (backTo pos (starEach [b] X.env)).any (·.1) = false := by rfl) :
    SE K (fE K) X (.Call (.Name "min" p) [a, b] [] pos) (mOn oMin es) := by
  refine se_bn (π := pE K) (call_min2 hc) (fun ys H Q h => ?_) mo_min embE hg hm (by decide +kernel) ha (by decide) (by decide) he hpl
  obtain ⟨G, as, g, r, q⟩ := h
  obtain ⟨i, j, rfl, q⟩ := two_ints q
  obtain ⟨x, y, rfl, r1, r2⟩ := rps2 r
  cases r1
  cases r2
  exact ⟨i, j, rfl, stay g q (.int _)⟩
def oInt : O1 := fun a k => match a with
  | .int i => k (.int i)
  | .bool b => k (.int (if b then 1 else 0))
  | _ => False
theorem mo_int : Mo1 oInt := fun a k k' w h => by cases a <;> first | exact h.elim | exact w _ h
theorem se_int_of {ma : ME} {p pos : Pos} (hg : Gl X "int") (hm : X.mg "int" = none) (ha : SE K (fV K) X a ma) (hs : starEach [a] X.env = [(false, eval a X.env)] := by rfl) (hpl : (backTo pos (starEach [] X.env)).any (·.1) = false := by rfl) :
    SE K (fE K) X (.Call (.Name "int" p) [a] [] pos) (mUn oInt ma) := by
  refine se_t1 (π := pE K) call_int1 (fun y H Q h => ?_) mo_int embE hg hm (by decide +kernel) ha hs (by decide) (by decide) hpl
  obtain ⟨G, d, g, hx, q⟩ := h
  cases d <;> first | exact q.elim | skip
  · have ex := vw_bl hx
    subst ex
    exact .inr ⟨_, rfl, stay g q (.int _)⟩
  · have ex := vw_int hx
    subst ex
    exact .inl ⟨_, rfl, stay g q (.int _)⟩
/-- list(x), tuple(x) of a list or tuple -/
def oTupOf : O1 := fun a k => match a with
  | .list ds => k (.tuple .frz ds)
  | .tuple c ds => k (.tuple c ds)
  | _ => False
theorem mo_tupOf : Mo1 oTupOf := fun a k k' w h => by cases a <;> first | exact h.elim | exact w _ h
def oLstOf : O1 := fun a k => match a with
  | .list ds => k (.list ds)
  | .tuple _ ds => k (.list ds)
  | _ => False
theorem mo_lstOf : Mo1 oLstOf := fun a k k' w h => by cases a <;> first | exact h.elim | exact w _ h
/-- tuple(x), the new one known as it lies -/
theorem call_tupleZ : CallR X (.type "tuple") (fun xs H Q => ∃ p ys, xs = [.ref p] ∧ ((SqL X.K H p ys ∧ ∀ l o, H l = none → o.dict = none → Q (.ref l) (upd H l (.frz o (.tup ys)))) ∨ (SqT X.K H p ys ∧ Q (.ref p) H))) := by
  intro pins s σ H xs us Q I r h
  obtain ⟨p, ys, rfl, h⟩ := h
  obtain ⟨u, rfl, rx⟩ := vals1 r
  cases rx
  rcases h with ⟨hq, q⟩ | ⟨hq, q⟩
  · obtain ⟨its, r', pl, hz⟩ := I.list hq
    have hlen := r'.length
    refine call_tuple_list pl.isList (fun h' kp => ?_) (by simp only [List.size_toArray] <;> omega)
    have J : Inv X pins σ H { s with heap := h' } := I.kept (t' := s.toks) kp
    refine ⟨.ref h'.objs.size, upd H h'.objs.size (.frz { cls := .type "tuple", data := .seq its.toArray } (.tup ys)), J.laid (t' := s.toks) (fun b o e => Heap.get?_push_of_some _ e) (Nat.le_refl _) ⟨Heap.get?_push_size _ rfl, hz, its, r', IsTup.new _ _⟩, rfl, q _ _ (J.hok.fresh (Nat.le_refl _)) rfl⟩
  · obtain ⟨its, r', pl, hz⟩ := I.tuple hq
    exact call_tuple_same pl ⟨.ref p, H, I, rfl, q⟩
/-- (a, b, ..), known as it lies -/
def mTupZ (m : MA) : ME := fun ρ k => m ρ fun ds ρ1 => ds.length ≤ sizeLine ∧ k (.tuple .frz ds) ρ1
def tTupZ (t : TA) : TE := fun σ H Q => t σ H fun xs H1 => xs.length ≤ sizeLine ∧ ∀ p o, H1 p = none → o.dict = none → Q (.ref p) (upd H1 p (.frz o (.tup xs)))
theorem pe_tupZ {x1} {pos : Pos} {t : TA} (h : PA X es t) : PE X (.Tuple es x1 pos) (tTupZ t) := by
  constructor
  intro pins s σ H Q I hq
  refine wpAny_Tuple_spliced (thn (h.run pos pins s σ H _ I hq) fun us s1 hh => ?_)
  obtain ⟨xs, H1, I1, r, z, q⟩ := hh
  refine ⟨by rw [← r.length]; exact z, .ref s1.heap.objs.size, upd H1 s1.heap.objs.size (.frz { cls := .type "tuple", data := .seq us.toArray } (.tup xs)), I1.laid (t' := s1.toks) (fun b u e => Heap.get?_push_of_some _ e) (Nat.le_refl _) ?_, rfl, q _ _ (I1.hok.fresh (Nat.le_refl _)) rfl⟩
  exact ⟨Heap.get?_push_size _ rfl, z, us, r, ⟨_, Heap.get?_push_size _ rfl, rfl, _, rfl⟩⟩
theorem se_tupZ {x1} {pos : Pos} {mr : MA} (h : SA K X es mr) : SE K (fE K) X (.Tuple es x1 pos) (mTupZ mr) := by
  refine ⟨fun ρ k k' w => h.mono ρ _ _ fun ds ρ1 q => ⟨q.1, w _ _ q.2⟩, pe_weak (pe_tupZ h.pa) fun σ H Q ⟨G, ρ, R, q⟩ => ⟨G, ρ, R, h.mono ρ _ _ (fun ds ρ1 q vs G1 H1 R1 l rs => ⟨by rw [rps_len rs]; exact q.1, fun p o np nd => ?_⟩) q⟩⟩
  have st := stp_newG (o := .frz o (.tup vs)) R1.gh np
  exact q.2 _ _ _ (R1.pure st (same_new2 R1.gh np)) (l.trans (.pure st)) (.tupZ upd_same nd (rps_same st.gg rs))
theorem se_tuple_of {ma : ME} {p pos : Pos} (hK : X.K = K) (hg : Gl X "tuple") (hm : X.mg "tuple" = none) (ha : SE K (fV K) X a ma) (hs : starEach [a] X.env = [(false, eval a X.env)] := by rfl) (hpl : (backTo pos (starEach [] X.env)).any (·.1) = false := by rfl) :
    SE K (fE K) X (.Call (.Name "tuple" p) [a] [] pos) (mUn oTupOf ma) := by
  subst hK
  refine se_t1 (π := pE X.K) call_tupleZ (fun y H Q h => ?_) mo_tupOf embE hg hm (by decide +kernel) ha hs (by decide) (by decide) hpl
  obtain ⟨G, d, g, hx, q⟩ := h
  cases d <;> first | exact q.elim | skip
  · obtain ⟨l, ys, rfl, rd, ra⟩ := vw_list g hx
    exact ⟨l, ys, rfl, .inl ⟨.inl rd, fun p o np nd => newG g q np (.tupZ upd_same nd (rps_same (same_upd (g.free np)) ra))⟩⟩
  · obtain ⟨l, ys, rfl, s1, sq, ra⟩ := vw_tup g hx
    exact ⟨l, ys, rfl, .inr ⟨sq, stay g q s1⟩⟩
/-- a new list, its maker's own -/
theorem newF {G H : Hp} {Q : VK} {d : D} {p : Addr} {o : HO} (g : Same G H) (q : Then K (pF K) G H Q d) (np : H p = none) (r : ObR K G o d) : Q (.ref p) (upd H p o) :=
  q _ _ _ (same_new1 g np) (stp_new np) ⟨p, o, rfl, np, upd_same, g.free np, r⟩
theorem se_list_of {ma : ME} {p pos : Pos} (hK : X.K = K) (hg : Gl X "list") (hm : X.mg "list" = none) (ha : SE K (fV K) X a ma) (hs : starEach [a] X.env = [(false, eval a X.env)] := by rfl) (hpl : (backTo pos (starEach [] X.env)).any (·.1) = false := by rfl) :
    SE K (fF K) X (.Call (.Name "list" p) [a] [] pos) (mUn oLstOf ma) := by
  subst hK
  refine se_t1 (π := pF X.K) call_list_of (fun y H Q h => ?_) mo_lstOf embF hg hm (by decide +kernel) ha hs (by decide) (by decide) hpl
  obtain ⟨G, d, g, hx, q⟩ := h
  cases d <;> first | exact q.elim | skip
  · obtain ⟨l, ys, rfl, rd, ra⟩ := vw_list g hx
    exact ⟨l, ys, rfl, .inl (.inl rd), fun p np => newF g q np (.lst ra)⟩
  · obtain ⟨l, ys, rfl, s1, sq, ra⟩ := vw_tup g hx
    exact ⟨l, ys, rfl, .inr sq, fun p np => newF g q np (.lst ra)⟩
/-- for i in range(n), range(m, n) -/
def intsD (lo : Int) (n : Nat) : List D := (List.range n).map fun i => .int (lo + (i : Nat))
def mRng1 (m : MA) : MI := fun ρ k => m ρ fun ds ρ1 => match ds with
  | [.int j] => -(2 ^ 62) ≤ j ∧ j < 2 ^ 62 ∧ k (intsD 0 j.toNat) ρ1
  | _ => False
def mRng2 (m : MA) : MI := fun ρ k => m ρ fun ds ρ1 => match ds with
  | [.int i, .int j] => (-(2 ^ 62) ≤ i ∧ i < 2 ^ 62 ∧ -(2 ^ 62) ≤ j ∧ j < 2 ^ 62) ∧ k (intsD i (j - i).toNat) ρ1
  | _ => False
theorem wk_rng {G : Hp} {lo : Int} {n : Nat} : Wk K (Itr lo n) G (intsD lo n) := by
  intro G' H' g gh
  have W := walk_range (lo := lo) (n := n)
  have ln : (intsD lo n).length = n := by unfold intsD; rw [List.length_map, List.length_range]
  refine ⟨fun i hi => W.goes i H' (by omega) trivial, by rw [ln]; exact W.stops H' trivial, fun i x H3 hi y => ?_⟩
  obtain ⟨rfl, rfl⟩ := W.yields i H' x H3 (by omega) trivial y
  refine ⟨G', .int (lo + i), gh, .refl, ?_, .int _⟩
  unfold intsD
  rw [List.getElem?_map, List.getElem?_range (by omega)]
  rfl
theorem si_range1 {tg : Expr} {m : MA} {p pos : Pos} (hg : Gl X "range") (hm : X.mg "range" = none) (ha : SA K X [a] m) (hs : starEach [a] X.env = [(false, eval a X.env)] := by rfl) : SI K X tg (.Call (.Name "range" p) [a] [] pos) (mRng1 m) := by
  refine ⟨fun ρ k k' w => ha.mono ρ _ _ fun ds ρ1 h => ?_, pi_weak (pi_range1 hg hm ha.pa hs) fun σ H R ⟨G, ρ, Rl, q⟩ => ⟨G, ρ, Rl, ha.mono ρ _ _ (fun ds ρ1 h vs G1 H1 R1 l r => ?_) q⟩⟩
  · split at h
    · exact ⟨h.1, h.2.1, w _ _ h.2.2⟩
    · exact h.elim
  · split at h
    · cases r with
      | cons r rs =>
        cases rs
        cases r
        exact ⟨_, rfl, h.1, h.2.1, h.2.2 _ G1 H1 R1 l wk_rng⟩
    · exact h.elim
theorem si_range2 {tg b : Expr} {m : MA} {p pos : Pos} (hg : Gl X "range") (hm : X.mg "range" = none) (ha : SA K X [a, b] m) (hs : starEach [a, b] X.env = [(false, eval a X.env), (false, eval b X.env)] := by rfl) (hs2 : starEach [b] X.env = [(false, eval b X.env)] := by rfl) : SI K X tg (.Call (.Name "range" p) [a, b] [] pos) (mRng2 m) := by
  refine ⟨fun ρ k k' w => ha.mono ρ _ _ fun ds ρ1 h => ?_, pi_weak (pi_range2 hg hm ha.pa hs hs2) fun σ H R ⟨G, ρ, Rl, q⟩ => ⟨G, ρ, Rl, ha.mono ρ _ _ (fun ds ρ1 h vs G1 H1 R1 l r => ?_) q⟩⟩
  · split at h
    · exact ⟨h.1, w _ _ h.2⟩
    · exact h.elim
  · split at h
    · obtain ⟨x, y, rfl, r1, r2⟩ := rps2 r
      cases r1
      cases r2
      exact ⟨_, _, rfl, h.1, h.2 _ G1 H1 R1 l wk_rng⟩
    · exact h.elim
end
end Dl

set_option Elab.async false
set_option linter.all false
set_option maxRecDepth 100000
set_option maxHeartbeats 4000000
namespace Dl
open PySem PySem.Spec PyProof.Rows L2 Br
/-! ### an owned list or dict is changed -/
def putKs (ps : List (D × D)) (k : Key ⊕ List Key) (key v : D) : List (D × D) :=
  if (ps.any fun p => decide (kOf p.1 = some k)) = true then ps.map (fun p => if kOf p.1 = some k then (p.1, v) else p) else ps ++ [(key, v)]
/-- a key that may be stored: a text, an int, a tuple that was made -/
def made : D → Bool
  | .tuple c _ => decide (c = .mad)
  | _ => true
def oPut (d i v : D) (k : D → Prop) : Prop := match d with
  | .list xs => match i with
    | .int j => match ixN xs.length j with
      | some n => k (.list (xs.set n v))
      | none => False
    | _ => False
  | .dict ps => match kOf i with
    | some q => made i = true ∧ fits ps i = true ∧ ps.length < sizeLine ∧ k (.dict (putKs ps q i v))
    | none => False
  | _ => False
theorem mo_put {d i v : D} {k k' : D → Prop} (w : ∀ d, k d → k' d) (h : oPut d i v k) : oPut d i v k' := by
  unfold oPut at h ⊢
  cases d with
  | list xs =>
    cases i <;> first | exact h.elim | skip
    dsimp only at h ⊢
    split at h
    · exact w _ h
    · exact h.elim
  | dict ps =>
    dsimp only at h ⊢
    split at h
    · exact ⟨h.1, h.2.1, h.2.2.1, w _ h.2.2.2⟩
    · exact h.elim
  | _ => exact h.elim
section
variable {K : PySem.W.Frag} {G H : Hp}
theorem any_K {k : Key} : ∀ {ks : List Key} {xs : List V} {ds : List D}, ks.length = xs.length → RpAll K G xs ds → ((ks.zip xs).any fun kv => decide (kv.1 = k)) = (((ks.map keyD).zip ds).any fun p => decide (kOf p.1 = some (.inl k)))
  | [], _, _, _, _ => rfl
  | q :: ks, _, _, hl, .nil => by cases hl
  | q :: ks, _ :: xs, _ :: ds, hl, .cons r rs => by
    have ih := any_K (k := k) (ks := ks) (Nat.succ.inj hl) rs
    show (decide (q = k) || (ks.zip xs).any _) = (decide (kOf (keyD q) = some (.inl k)) || _)
    rw [ih, kOf_D]
    congr 1
    by_cases e : q = k
    · rw [decide_eq_true e, decide_eq_true (by rw [e])]
    · rw [decide_eq_false e, decide_eq_false (fun z => e (Sum.inl.inj (Option.some.inj z)))]
theorem any_T {k : List Key} : ∀ {ks : List (List Key)} {xs : List V} {ds : List D}, ks.length = xs.length → RpAll K G xs ds → ((ks.zip xs).any fun kv => decide (kv.1 = k)) = (((ks.map fun k => D.tuple .mad (k.map keyD)).zip ds).any fun p => decide (kOf p.1 = some (.inr k)))
  | [], _, _, _, _ => rfl
  | q :: ks, _, _, hl, .nil => by cases hl
  | q :: ks, _ :: xs, _ :: ds, hl, .cons r rs => by
    have ih := any_T (k := k) (ks := ks) (Nat.succ.inj hl) rs
    show (decide (q = k) || (ks.zip xs).any _) = (decide (kOf (.tuple .mad (q.map keyD)) = some (.inr k)) || _)
    rw [ih, kOf_T]
    congr 1
    by_cases e : q = k
    · rw [decide_eq_true e, decide_eq_true (by rw [e])]
    · rw [decide_eq_false e, decide_eq_false (fun z => e (Sum.inr.inj (Option.some.inj z)))]
theorem map_K {k : Key} {v : V} {d : D} (rv : Rp K G v d) : ∀ {ks : List Key} {xs : List V} {ds : List D}, ks.length = xs.length → RpAll K G xs ds →
    ∃ (ys : List V) (es : List D), (ks.zip xs).map (fun kv => if kv.1 = k then (kv.1, v) else kv) = ks.zip ys ∧ ks.length = ys.length ∧ RpAll K G ys es ∧ ((ks.map keyD).zip ds).map (fun p => if kOf p.1 = some (.inl k) then (p.1, d) else p) = (ks.map keyD).zip es
  | [], xs, ds, hl, r => by
    cases xs with
    | nil => exact ⟨[], [], rfl, rfl, .nil, rfl⟩
    | cons _ _ => cases hl
  | q :: ks, _, _, hl, .nil => by cases hl
  | q :: ks, x :: xs, e :: ds, hl, .cons r rs => by
    obtain ⟨ys, es, h1, h2, h3, h4⟩ := map_K (k := k) rv (ks := ks) (Nat.succ.inj hl) rs
    by_cases z : q = k
    · refine ⟨v :: ys, d :: es, ?_, congrArg (· + 1) h2, .cons rv h3, ?_⟩
      · show (if q = k then (q, v) else (q, x)) :: _ = (q, v) :: ks.zip ys
        rw [if_pos z, ← h1]; rfl
      · show (if kOf (keyD q) = some (.inl k) then (keyD q, d) else (keyD q, e)) :: _ = (keyD q, d) :: (ks.map keyD).zip es
        rw [kOf_D, if_pos (by rw [z]), ← h4]; rfl
    · refine ⟨x :: ys, e :: es, ?_, congrArg (· + 1) h2, .cons r h3, ?_⟩
      · show (if q = k then (q, v) else (q, x)) :: _ = (q, x) :: ks.zip ys
        rw [if_neg z, ← h1]; rfl
      · show (if kOf (keyD q) = some (.inl k) then (keyD q, d) else (keyD q, e)) :: _ = (keyD q, e) :: (ks.map keyD).zip es
        rw [kOf_D, if_neg (fun y => z (Sum.inl.inj (Option.some.inj y))), ← h4]; rfl
theorem map_T {k : List Key} {v : V} {d : D} (rv : Rp K G v d) : ∀ {ks : List (List Key)} {xs : List V} {ds : List D}, ks.length = xs.length → RpAll K G xs ds →
    ∃ (ys : List V) (es : List D), (ks.zip xs).map (fun kv => if kv.1 = k then (kv.1, v) else kv) = ks.zip ys ∧ ks.length = ys.length ∧ RpAll K G ys es ∧ ((ks.map fun k => D.tuple .mad (k.map keyD)).zip ds).map (fun p => if kOf p.1 = some (.inr k) then (p.1, d) else p) = (ks.map fun k => D.tuple .mad (k.map keyD)).zip es
  | [], xs, ds, hl, r => by
    cases xs with
    | nil => exact ⟨[], [], rfl, rfl, .nil, rfl⟩
    | cons _ _ => cases hl
  | q :: ks, _, _, hl, .nil => by cases hl
  | q :: ks, x :: xs, e :: ds, hl, .cons r rs => by
    obtain ⟨ys, es, h1, h2, h3, h4⟩ := map_T (k := k) rv (ks := ks) (Nat.succ.inj hl) rs
    by_cases z : q = k
    · refine ⟨v :: ys, d :: es, ?_, congrArg (· + 1) h2, .cons rv h3, ?_⟩
      · show (if q = k then (q, v) else (q, x)) :: _ = (q, v) :: ks.zip ys
        rw [if_pos z, ← h1]; rfl
      · show (if kOf (.tuple .mad (q.map keyD)) = some (.inr k) then (D.tuple .mad (q.map keyD), d) else (D.tuple .mad (q.map keyD), e)) :: _ = (D.tuple .mad (q.map keyD), d) :: (ks.map fun k => D.tuple .mad (k.map keyD)).zip es
        rw [kOf_T, if_pos (by rw [z]), ← h4]; rfl
    · refine ⟨x :: ys, e :: es, ?_, congrArg (· + 1) h2, .cons r h3, ?_⟩
      · show (if q = k then (q, v) else (q, x)) :: _ = (q, x) :: ks.zip ys
        rw [if_neg z, ← h1]; rfl
      · show (if kOf (.tuple .mad (q.map keyD)) = some (.inr k) then (D.tuple .mad (q.map keyD), d) else (D.tuple .mad (q.map keyD), e)) :: _ = (D.tuple .mad (q.map keyD), e) :: (ks.map fun k => D.tuple .mad (k.map keyD)).zip es
        rw [kOf_T, if_neg (fun y => z (Sum.inr.inj (Option.some.inj y))), ← h4]; rfl
theorem zip_snoc {α β : Type} {as : List α} {bs : List β} {a : α} {b : β} (h : as.length = bs.length) : (as ++ [a]).zip (bs ++ [b]) = as.zip bs ++ [(a, b)] := by
  rw [List.zip_append h]; rfl
/-- a dict behind d[k] = v -/
theorem put_K {k : Key} {v : V} {d : D} {ks : List Key} {xs : List V} {ds : List D} (hl : ks.length = xs.length) (ra : RpAll K G xs ds) (rv : Rp K G v d) : ObR K G (.dK (putK (ks.zip xs) k v)) (.dict (putKs ((ks.map keyD).zip ds) (.inl k) (keyD k) d)) := by
  unfold putK putKs
  rw [any_K hl ra]
  split
  · obtain ⟨ys, es, h1, h2, h3, h4⟩ := map_K (k := k) rv hl ra
    rw [h1, h4]
    exact .dK h2 h3
  · have e := rps_len ra
    rw [← zip_snoc hl, ← zip_snoc (by simp; omega)]
    have := ObR.dK (K := K) (G := G) (ks := ks ++ [k]) (xs := xs ++ [v]) (ds := ds ++ [d]) (by simp; omega) (rps_app ra (.cons rv .nil))
    rw [List.map_append] at this
    exact this
theorem put_T {k : List Key} {v : V} {d : D} {ks : List (List Key)} {xs : List V} {ds : List D} (hl : ks.length = xs.length) (ra : RpAll K G xs ds) (rv : Rp K G v d) : ObR K G (.dT (putK (ks.zip xs) k v)) (.dict (putKs ((ks.map fun k => D.tuple .mad (k.map keyD)).zip ds) (.inr k) (.tuple .mad (k.map keyD)) d)) := by
  unfold putK putKs
  rw [any_T hl ra]
  split
  · obtain ⟨ys, es, h1, h2, h3, h4⟩ := map_T (k := k) rv hl ra
    rw [h1, h4]
    exact .dT h2 h3
  · have e := rps_len ra
    rw [← zip_snoc hl, ← zip_snoc (by simp; omega)]
    have := ObR.dT (K := K) (G := G) (ks := ks ++ [k]) (xs := xs ++ [v]) (ds := ds ++ [d]) (by simp; omega) (rps_app ra (.cons rv .nil))
    rw [List.map_append] at this
    exact this
end
section
variable {X : Cx} {pins : List (Addr × Obj)} {σ : L2.St} {G H : Hp} {s : Shared}
/-- d[tuple] = v where the dict has tuples for keys, or nothing -/
theorem setT {a b : Addr} {kvs : List (List Key × V)} {xs : List (List Key × Addr × Value)} {k : List Key} {v : V} {r : Value} {A : Around} {E : Value → Shared → Prop} {Q : Unit → Shared → Prop} (hu : A.units + 1 < cLine) (I : Inv X pins σ H s) (mu : Mut (H a)) (hd : (a == sysModules) = false) (rel : KT H kvs xs) (dd : s.heap.DictOfH (tupleKind (mixKind X.prog X.w)) a xs)
    (hz : kvs.length < sizeLine) (eb : H b = some (.tup (k.map kV))) (rv : RelV v r) (h : ∀ s', Inv X pins σ (upd H a (.dT (putK kvs k v))) s' → Q () s') : wpAny (model X.prog X.w) A (setItem (.ref a) (.ref b) r) Q E s := by
  have lx := Paired.length rel
  have lp := length_putK kvs k v
  refine wpAny_setItem_heap (hsz := by omega) (tupleKind_room_in1 hu) (key_of I.hok eb) dd fun h' dd' hs => h _ ?_
  obtain ⟨q, es, ep, hq, h2, h3, h4, _, h5⟩ := dd'
  refine d_write I mu hs ⟨q, hq⟩ ⟨by omega, hd, _, (rel.put k eb rv).keeps fun c ys ec => ?_, q, es, ep, hq, h2, h3, h4, h5⟩
  rw [upd_ne (fun z => by subst z; rw [ec] at mu; exact mu)]
  exact ec
theorem setK {a : Addr} {kvs : List (Key × V)} {vs : List (Key × Value)} {k : Key} {v : V} {u r : Value} {A : Around} {E : Value → Shared → Prop} {Q : Unit → Shared → Prop} (I : Inv X pins σ H s) (mu : Mut (H a)) (hd : (a == sysModules) = false) (rel : KV kvs vs) (dd : s.heap.DictOf (mixKind X.prog X.w) a vs)
    (hz : kvs.length < sizeLine) (ru : RelV (kV k) u) (rv : RelV v r) (h : ∀ s', Inv X pins σ (upd H a (.dK (putK kvs k v))) s' → Q () s') : wpAny (model X.prog X.w) A (setItem (.ref a) u r) Q E s := by
  have lx := rel.length
  have lp := length_putK kvs k v
  refine wpAny_setItem_pairs (hsz := by omega) (kV_is ru) dd fun h' dd' hs => h _ ?_
  have he : ∃ q, h'.get? a = some q := let ⟨q, _, _, hq, _⟩ := dd'; ⟨q, hq⟩
  exact d_write I mu hs he (dk_new (by omega) hd (rel.put k rv) dd')
/-- o[i] = v of an owned o -/
def rPut (K : PySem.W.Frag) : TSet := fun o i v H Q => ∃ G p ob d di dv, o = .ref p ∧ Same G H ∧ H p = some ob ∧ G p = none ∧ ObR K G ob d ∧ Rp K G i di ∧ Rp K G v dv ∧ oPut d di dv fun d' => ∀ ob', ObR K G ob' d' → Q (upd H p ob')
theorem pset_put (hu : X.A.units + 1 < cLine) : PSet X (rPut X.K) := by
  intro pins s σ H o i v ov iv u Q I ro ri rv h
  obtain ⟨G, p, ob, d, di, dv, rfl, g, hp, gp, ro', rdi, rdv, q⟩ := h
  cases ro
  unfold oPut at q
  cases ro' with
  | lst ra =>
    cases di <;> first | exact q.elim | skip
    dsimp only at q
    split at q
    · rename_i n e
      cases rdi
      have ln := rps_len ra
      refine set_list pins s σ H (.ref p) _ v _ iv u Q I (show RelV (.ref p) (.ref p) from rfl) ri rv ⟨p, _, _, n, rfl, rfl, hp, by rw [ln]; exact e, q _ (.lst ?_)⟩
      have : ∀ {xs : List V} {ds : List D} (n : Nat), RpAll X.K G xs ds → RpAll X.K G (xs.set n v) (ds.set n dv) := by
        intro xs
        induction xs with
        | nil => intro ds n r; cases r; exact .nil
        | cons x xs ih =>
          intro ds n r
          cases r with
          | cons r1 r2 =>
            cases n with
            | zero => exact .cons rdv r2
            | succ n => exact .cons r1 (ih n r2)
      exact this n ra
    · exact q.elim
  | @dK ks xs ds hl ra =>
    dsimp only at q
    split at q
    · rename_i kk e
      obtain ⟨hm, hf, hz, q⟩ := q
      have le := rps_len ra
      rcases kk with k | k
      · have ed := kOf_inl e
        subst ed
        have ey := key_val (H := H) (.fro rdi)
        subst ey
        obtain ⟨_, hd, vs, rel, dd⟩ := dk_of I.hok hp
        exact setK I (by rw [hp]; trivial) hd rel dd (by simp at hz ⊢; omega) ri rv fun s' I' => ⟨_, I', q _ (put_K hl ra rdv)⟩
      · obtain ⟨c, ed⟩ := kOf_inr e
        subst ed
        have hc : c = .mad := of_decide_eq_true hm
        subst hc
        obtain ⟨b, ys, rfl, _, ry, tr⟩ := rp_tup rdi
        have ey := key_vals ry
        subst ey
        have e0 : ks = [] := by
          cases ks with
          | nil => rfl
          | cons q0 ks =>
            cases ra with
            | nil => cases hl
            | cons _ _ =>
              have := List.all_eq_true.mp hf _ List.mem_cons_self
              cases q0 <;> cases this
        subst e0
        have x0 : xs = [] := List.eq_nil_of_length_eq_zero hl.symm
        subst x0
        cases ra
        obtain ⟨hd, dd⟩ := rd0_KT I.hok (.inl hp)
        cases ri
        exact setT hu I (by rw [hp]; trivial) hd .nil dd (by decide) (g _ _ (tr rfl)) rv fun s' I' => ⟨_, I', q _ (put_T (ks := []) (xs := []) (ds := []) rfl .nil rdv)⟩
    · exact q.elim
  | @dT ks xs ds hl ra =>
    dsimp only at q
    split at q
    · rename_i kk e
      obtain ⟨hm, hf, hz, q⟩ := q
      have le := rps_len ra
      rcases kk with k | k
      · have ed := kOf_inl e
        subst ed
        have ey := key_val (H := H) (.fro rdi)
        subst ey
        have e0 : ks = [] := by
          cases ks with
          | nil => rfl
          | cons q0 ks =>
            cases ra with
            | nil => cases hl
            | cons _ _ =>
              have := List.all_eq_true.mp hf _ List.mem_cons_self
              cases k <;> cases this
        subst e0
        have x0 : xs = [] := List.eq_nil_of_length_eq_zero hl.symm
        subst x0
        cases ra
        obtain ⟨hd, dd⟩ := rd0_TK I.hok (.inl hp)
        exact setK I (by rw [hp]; trivial) hd .nil dd (by decide) ri rv fun s' I' => ⟨_, I', q _ (put_K (ks := []) (xs := []) (ds := []) rfl .nil rdv)⟩
      · obtain ⟨c, ed⟩ := kOf_inr e
        subst ed
        have hc : c = .mad := of_decide_eq_true hm
        subst hc
        obtain ⟨b, ys, rfl, _, ry, tr⟩ := rp_tup rdi
        have ey := key_vals ry
        subst ey
        obtain ⟨_, hd, vs, rel, dd⟩ := dt_of I.hok hp
        cases ri
        exact setT hu I (by rw [hp]; trivial) hd rel dd (by simp at hz ⊢; omega) (g _ _ (tr rfl)) rv fun s' I' => ⟨_, I', q _ (put_T hl ra rdv)⟩
    · exact q.elim
end
section
variable {K : PySem.W.Frag} {X : Cx} {n : Nat} {e b o : Expr} {m mb : ME} {pos : Pos}
/-- the owned one at slot i becomes another -/
theorem Rel.chg {σ : L2.St} {G H : Hp} {ρ : Cs} {i : Nat} {p : Addr} {ob : HO} {d d' : D} (R : Rel K σ G H ρ) (hi : ρ[i]? = some (.own d)) (hs : σ[i]? = some (some (.ref p))) (r : ObR K G ob d') : Rel K σ G (upd H p ob) (ρ.set i (.own d')) ∧ Lk n σ G H ρ σ G (upd H p ob) (ρ.set i (.own d')) := by
  obtain ⟨p', o', z1, z2, z3, z4⟩ := R.own i d hi
  rw [hs] at z1
  cases z1
  have lt := (List.getElem?_eq_some_iff.mp hi).1
  have w0 : Ow σ ρ p := ⟨i, d, hi, hs⟩
  refine ⟨⟨fun b u q => (upd_ne (ne_of_none q z3)).trans (R.gh b u q), by rw [List.length_set]; exact R.len, fun j c q => ?_, fun j c q => ?_, fun j l a c c' q q' h h' => ?_⟩, ⟨⟨Same.refl G, fun a u nm q => ?_, fun a u _ _ g _ => g, fun a q => ?_⟩, fun q w => .inl ?_, fun _ _ => rfl⟩⟩
  · rcases set_get q with ⟨_, _, z⟩ | ⟨_, z⟩
    · cases z
    · exact R.fro j c z
  · rcases set_get q with ⟨rfl, _, z⟩ | ⟨ne, z⟩
    · cases z
      exact ⟨p, ob, hs, upd_same, z3, r⟩
    · obtain ⟨p2, o2, y1, y2, y3, y4⟩ := R.own j c z
      exact ⟨p2, o2, y1, (upd_ne (fun w => by subst w; exact ne (R.apart j i p2 c d z hi y1 hs))).trans y2, y3, y4⟩
  · have back : ∀ {j : Nat} {c : D}, (ρ.set i (.own d'))[j]? = some (.own c) → ∃ c0, ρ[j]? = some (.own c0) := fun {j c} q => by
      rcases set_get q with ⟨rfl, _, _⟩ | ⟨_, z⟩
      · exact ⟨d, hi⟩
      · exact ⟨c, z⟩
    obtain ⟨c0, q0⟩ := back q
    obtain ⟨c1, q1⟩ := back q'
    exact R.apart j l a c0 c1 q0 q1 h h'
  · exact (upd_ne (fun z => by subst z; exact nm w0)).trans q
  · by_cases z : a = p
    · subst z; rw [upd_same] at q; cases q
    · rw [upd_ne z] at q; exact q
  · obtain ⟨j, c, y1, y2⟩ := w
    rcases set_get y1 with ⟨rfl, _, _⟩ | ⟨_, z⟩
    · exact ⟨_, d, hi, y2⟩
    · exact ⟨j, c, z, y2⟩
def sPut (i : Nat) (mv mi : ME) : MS := fun E ρ => mv ρ fun dv ρ1 => mOwn i ρ1 fun _ _ => mi ρ1 fun di ρ2 => match ρ2[i]? with
  | some (.own d) => oPut d di dv fun d' => E.nx (ρ2.set i (.own d'))
  | _ => False
theorem ss_put {k i : Nat} {p : Pos} (hK : X.K = K) (hr : Room k X.A) (ho : PE X o (tVar i)) (hv : SE K (fE K) X e m) (hi : SE K (fE K) X b mb)
    (ha : ∀ v, assign (.Subscript o b p) X.env v = (do
      let ov ← holding [v] (eval o X.env)
      let iv ← holding [v, ov] (eval b X.env)
      standAt p
      holding [v, ov, iv] (setItem ov iv v)
      release [v, ov, iv] []) := by intro _; rfl)
    (hs : swapsWithSole [.Subscript o b p] e pos.line X.env = pure false := by rfl) (hw : swappedStores [.Subscript o b p] e X.env = pure none := by rfl)
    (h1 : (assignEach [.Subscript o b p] X.env).map (·.2) = [assign (.Subscript o b p) X.env] := by rfl) : SS K n X (.Assign [.Subscript o b p] e pos) (sPut i m mb) := by
  subst hK
  have hu : X.A.units + 1 < cLine := Room.u1 hr
  constructor
  · intro ρ E E' a _ _ _
    refine hv.mono ρ _ _ fun dv ρ1 => mo_own ρ1 _ _ fun _ _ => hi.mono ρ1 _ _ fun di ρ2 q => ?_
    split at q
    · exact mo_put (fun d => a _) q
    · exact q.elim
  · refine ps_weak (ps_asg hv.pe (pg_sub ho hi.pe (pset_put hu) ha) hs hw h1) fun T σ H ⟨G, ρ, E, R, q, a, _⟩ => ⟨G, ρ, R, hv.mono ρ _ _ (fun dv ρ1 q v G1 H1 R1 l1 rv => ?_) q⟩
    obtain ⟨x, _, hx, _, q⟩ := own_there R1 q
    refine ⟨x, hx, G1, ρ1, R1, hi.mono ρ1 _ _ (fun di ρ2 q iv G2 H2 R2 l2 ri => ?_) q⟩
    split at q
    · rename_i d e2
      obtain ⟨p2, ob, y1, y2, y3, y4⟩ := R2.own i d e2
      rw [hx] at y1
      cases y1
      refine ⟨G2, p2, ob, d, di, dv, rfl, R2.gh, y2, y3, y4, ri, rp_same l2.st.gg rv, mo_put (fun d' q ob' r => ?_) q⟩
      obtain ⟨R3, l3⟩ := Rel.chg (n := n) R2 e2 hx r
      exact a σ G2 _ _ R3 ((l1.trans l2).up.trans l3) q
    · exact q.elim
/-! x.append(e) -/
def sAppend (i : Nat) (mv : ME) : MS := fun E ρ => mOwn i ρ fun d0 _ => (∃ xs, d0 = .list xs) ∧ mv ρ fun dv ρ2 => match ρ2[i]? with
  | some (.own (.list xs)) => xs.length < sizeLine ∧ E.nx (ρ2.set i (.own (.list (xs ++ [dv]))))
  | _ => False
theorem ss_append {i : Nat} {ap p2 : Pos} (hK : X.K = K) (ho : PE X o (tVar i)) (hv : SE K (fE K) X e m) (hbase : attributeBase o "append" X.env (eval o X.env) = eval o X.env := by rfl)
    (hfew : ((backTo p2 (starEach [e] X.env)).all (fun x => !x.1) && (backToKw p2 (keywordEach [] X.env)).all (fun x => x.1.isSome) && decide (([e] : List Expr).length + ([] : List Keyword).length + (if ([] : List Keyword).isEmpty then 0 else 1) < 30)) = true := by rfl)
    (hline : (ap.endLine == p2.line) = true := by rfl) (hs : starEach [e] X.env = (false, eval e X.env) :: starEach [] X.env := by rfl) (hplain : (backTo p2 (starEach [] X.env)).any (·.1) = false := by rfl)
    (hsw : swapsWith (.Call (.Attribute o "append" ap) [e] [] p2) none pos.line X.env = pure false := by rfl) : SS K n X (.Expr (.Call (.Attribute o "append" ap) [e] [] p2) pos) (sAppend i m) := by
  subst hK
  constructor
  · intro ρ E E' a _ _ _
    refine mo_own ρ _ _ fun d0 _ q => ⟨q.1, hv.mono ρ _ _ (fun dv ρ2 q => ?_) q.2⟩
    split at q
    · exact ⟨q.1, a _ q.2⟩
    · exact q.elim
  · refine ps_weak (ps_expr (pe_bm PySem.F.plainAttrs_list PySem.F.slot_list_append PySem.F.type_list_append mt_append ho (pa_cons hv.pe pa_nil hs) hbase hfew hline hs hplain) hsw) fun T σ H ⟨G, ρ, E, R, q, a, _⟩ => ?_
    obtain ⟨x, d0, hx, vx, ⟨xs, rfl⟩, q⟩ := own_there R q
    obtain ⟨p, ys, rfl, rd, _⟩ := vw_list R.gh vx
    refine ⟨_, hx, .inl ⟨rfl, ys, .inl rd⟩, G, ρ, R, hv.mono ρ _ _ (fun dv ρ2 q v G2 H2 R2 l2 rv => ?_) q⟩
    split at q
    · rename_i zs e2
      obtain ⟨p2, ob, y1, y2, y3, y4⟩ := R2.own i _ e2
      rw [hx] at y1
      cases y1
      cases y4 with
      | lst ra =>
        obtain ⟨R3, l3⟩ := Rel.chg (n := n) R2 e2 hx (.lst (rps_app ra (.cons rv .nil)))
        exact ⟨_, _, v, rfl, rfl, y2, by rw [rps_len ra]; exact q.1, a σ G2 _ _ R3 (l2.up.trans l3) q.2⟩
    · exact q.elim
/-! {} -/
def mDNew : ME := fun ρ k => k (.dict []) ρ
theorem se_dnewK : SE K (fF K) X (.Dict [] [] pos) mDNew := by
  refine ⟨fun ρ k k' w => w _ _, pe_weak pe_dnewK fun σ H Q ⟨G, ρ, R, q⟩ p np => ?_⟩
  have st := stp_new (G := G) (o := .dK []) np
  exact q _ G _ (R.pure st (same_new1 R.gh np)) (.pure st) ⟨p, _, rfl, np, fun w => R.old w np, upd_same, R.gh.free np, .dK (ks := []) (xs := []) (ds := []) rfl .nil⟩
/-! texts -/
def mSplit (ma mb : ME) : ME := fun ρ k => ma ρ fun da ρ1 => match da with
  | .str x => mb ρ1 fun db ρ2 => match db with
    | .str y => (y.length == 0) = false ∧ x.length + 2 ≤ sizeLine ∧ k (.list ((Txt.split x y).map .str)) ρ2
    | _ => False
  | _ => False
theorem rps_strs {G : Hp} : ∀ ys : List Str, RpAll K G (ys.map V.str) (ys.map D.str)
  | [] => .nil
  | y :: ys => .cons (.str y) (rps_strs ys)
theorem se_split {a : Expr} {ma : ME} {ap : Pos} (hK : X.K = K) (ha : SE K (fE K) X a ma) (hb : SE K (fE K) X b mb) (hs : starEach [b] X.env = [(false, eval b X.env)] := by rfl) (hbase : attributeBase a "split" X.env (eval a X.env) = eval a X.env := by rfl) (hline : (ap.endLine == pos.line) = true := by rfl) :
    SE K (fF K) X (.Call (.Attribute a "split" ap) [b] [] pos) (mSplit ma mb) := by
  constructor
  · intro ρ k k' w
    refine ha.mono ρ _ _ fun da ρ1 q => ?_
    cases da <;> first | exact q.elim | skip
    refine hb.mono ρ1 _ _ (fun db ρ2 q => ?_) q
    cases db <;> first | exact q.elim | exact ⟨q.1, q.2.1, w _ _ q.2.2⟩
  · refine pe_weak (pe_split ha.pe hb.pe hs hbase hline) fun σ H Q ⟨G, ρ, R, q⟩ => ⟨G, ρ, R, ha.mono ρ _ _ (fun da ρ1 q x G1 H1 R1 l1 rx => ?_) q⟩
    cases da <;> first | exact q.elim | skip
    rename_i sx
    cases rx
    refine ⟨⟨_, rfl⟩, G1, ρ1, R1, hb.mono ρ1 _ _ (fun db ρ2 q y G2 H2 R2 l2 ry => ?_) q⟩
    cases db <;> first | exact q.elim | skip
    rename_i sy
    cases ry
    refine ⟨_, _, rfl, rfl, q.1, q.2.1, fun p np => ?_⟩
    have st := stp_new (G := G2) (o := .lst ((Txt.split sx sy).map V.str)) np
    exact q.2.2 _ G2 _ (R2.pure st (same_new1 R2.gh np)) ((l1.trans l2).trans (.pure st)) ⟨p, _, rfl, (l1.trans l2).st.dom p np, fun w => R2.old w np, upd_same, R2.gh.free np, .lst (rps_strs _)⟩
def strsOf : List D → Option (List Str)
  | [] => some []
  | .str x :: r => (strsOf r).map (x :: ·)
  | _ => none
def seqOf : D → Option (List D)
  | .list ds => some ds
  | .tuple _ ds => some ds
  | _ => none
def mJoin (ma mb : ME) : ME := fun ρ k => ma ρ fun da ρ1 => match da with
  | .str x => mb ρ1 fun db ρ2 => match (seqOf db).bind strsOf with
    | some ys => (ys.map (·.length)).sum + ys.length * x.length ≤ 16777216 ∧ k (.str (Txt.join x ys)) ρ2
    | none => False
  | _ => False
theorem strs_V {G : Hp} : ∀ {xs : List V} {ds : List D} {ys : List Str}, RpAll K G xs ds → strsOf ds = some ys → xs = ys.map V.str
  | _, _, _, .nil, h => by cases h; rfl
  | _, _, _, .cons (d := d) r rs, h => by
    cases d <;> first | cases h; done | skip
    cases r
    obtain ⟨zs, h1, h2⟩ := Option.map_eq_some_iff.mp h
    subst h2
    rw [strs_V rs h1]; rfl
theorem se_join {a : Expr} {ma : ME} {ap : Pos} (hK : X.K = K) (ha : SE K (fE K) X a ma) (hb : SE K (fV K) X b mb) (hs : starEach [b] X.env = [(false, eval b X.env)] := by rfl) (hbase : attributeBase a "join" X.env (eval a X.env) = eval a X.env := by rfl) (hline : (ap.endLine == pos.line) = true := by rfl) :
    SE K (fE K) X (.Call (.Attribute a "join" ap) [b] [] pos) (mJoin ma mb) := by
  subst hK
  constructor
  · intro ρ k k' w
    refine ha.mono ρ _ _ fun da ρ1 q => ?_
    cases da <;> first | exact q.elim | skip
    refine hb.mono ρ1 _ _ (fun db ρ2 q => ?_) q
    split at q
    · exact ⟨q.1, w _ _ q.2⟩
    · exact q.elim
  · refine pe_weak (pe_join ha.pe hb.pe hs hbase hline) fun σ H Q ⟨G, ρ, R, q⟩ => ⟨G, ρ, R, ha.mono ρ _ _ (fun da ρ1 q x G1 H1 R1 l1 rx => ?_) q⟩
    cases da <;> first | exact q.elim | skip
    cases rx
    refine ⟨⟨_, rfl⟩, G1, ρ1, R1, hb.mono ρ1 _ _ (fun db ρ2 q y G2 H2 R2 l2 ry => ?_) q⟩
    split at q
    · rename_i ys e2
      obtain ⟨ds, e3, e4⟩ := Option.bind_eq_some_iff.mp e2
      cases db <;> first | cases e3; done | skip
      · cases e3
        obtain ⟨p, zs, rfl, rd, ra⟩ := vw_list R2.gh ry
        exact ⟨_, p, ys, rfl, rfl, .inl (.inl (by rw [← strs_V ra e4]; exact rd)), q.1, q.2 _ G2 H2 R2 (l1.trans l2) (.str _)⟩
      · cases e3
        obtain ⟨p, zs, rfl, _, sq, ra⟩ := vw_tup R2.gh ry
        exact ⟨_, p, ys, rfl, rfl, .inr (by rw [← strs_V ra e4]; exact sq), q.1, q.2 _ G2 H2 R2 (l1.trans l2) (.str _)⟩
    · exact q.elim
end
end Dl

set_option Elab.async false
set_option linter.all false
set_option maxRecDepth 100000
set_option maxHeartbeats 4000000
namespace Dl
open PySem PySem.Spec PyProof.Rows L2 Br
/-! ### a def that hands back a new list: its caller's own -/
def tSF (K : PySem.W.Frag) (m : MS) : TS := fun T σ H => ∃ G ρ E, Rel K σ G H ρ ∧ m E ρ ∧ ∀ v d σ' G' H' ρ', Rel K σ' G' H' ρ' → Lk 0 σ G H ρ σ' G' H' ρ' → fF K H σ' ρ' G' H' v d → E.rt d ρ' → T.rt v H'
structure SBF (K : PySem.W.Frag) (X : Cx) (sts : List Stmt) (m : MS) : Prop where
  mono : ∀ (ρ : Cs) (E E' : Dn), (∀ d ρ', E.rt d ρ' → E'.rt d ρ') → m E ρ → m E' ρ
  ps : PSs X sts (tSF K m)
section
variable {K : PySem.W.Frag} {X : Cx} {st : Stmt} {sts : List Stmt} {ms mu : MS} {e : Expr} {m : ME} {pos : Pos}
theorem sbf_ret (h : SE K (fF K) X e m) : SBF K X [.Return (some e) pos] (sRet m) :=
  ⟨fun ρ E E' w => h.mono ρ _ _ w, pss_weak (pss_one (ps_ret h.pe)) fun T σ H ⟨G, ρ, E, R, q, b⟩ => ⟨G, ρ, R, h.mono ρ _ _ (fun d ρ1 q v G1 H1 R1 l r => b v d σ G1 H1 ρ1 R1 l r q) q⟩⟩
/-- statements that hand nothing back, then the rest -/
def sSeqF (a b : MS) : MS := fun E ρ => a { nx := b E, rt := fun _ _ => False } ρ
theorem sbf_cons (h : SS K 0 X st ms) (g : SBF K X sts mu) : SBF K X (st :: sts) (sSeqF ms mu) := by
  refine ⟨fun ρ E E' w => h.mono ρ _ _ (fun ρ1 => g.mono ρ1 _ _ w) (fun _ _ z => z) (fun _ z => z) (fun _ z => z), pss_weak (pss_cons h.ps g.ps) fun T σ H ⟨G, ρ, E, R, q, b⟩ => ?_⟩
  refine ⟨G, ρ, _, R, q, fun σ1 G1 H1 ρ1 R1 l1 q1 => ⟨G1, ρ1, E, R1, q1, fun v d σ2 G2 H2 ρ2 R2 l2 f => b v d σ2 G2 H2 ρ2 R2 (l1.trans l2) ?_⟩, fun _ _ _ _ _ _ _ _ _ z => z.elim, fun _ _ _ _ _ _ z => z.elim, fun _ _ _ _ _ _ z => z.elim⟩
  obtain ⟨p, o, e, h0, r⟩ := f
  exact ⟨p, o, e, l1.st.dom p h0, r⟩
abbrev Ff := List D → (D → Prop) → Prop
def spF (K : PySem.W.Frag) (np : Nat) (F : Ff) : Sp := fun vs H Q _ => vs.length = np ∧ ∃ G ds, Same G H ∧ RpAll K G vs ds ∧ F ds (Then K (pF K) G H Q)
structure FnF (P : Program) (w : World) (K : PySem.W.Frag) (mg : Str → Option Value) (base : Heap) (k : Nat) (f : Addr) (fd : FuncData) (ps : List Str) (F : Ff) : Prop where
  ok : FnG P w K mg base CX0 k f fd ps (spF K ps.length F)
  mo : ∀ ds (k k' : D → Prop), (∀ d, k d → k' d) → F ds k → F ds k'
  ln : ∀ ds k, F ds k → ds.length = ps.length
def FofF (np m : Nat) (b : MS) : Ff := fun ds k => ds.length = np ∧ ∃ k0 : D → Prop, (∀ d, k0 d → k d) ∧ b { nx := fun _ => False, rt := fun d _ => k0 d } (ds.map .fro ++ List.replicate m .un)
end
section
variable {P : Program} {w : World} {K : PySem.W.Frag} {mg : Str → Option Value} {base : Heap} {k : Nat} {f : Addr} {fd : FuncData} {ps : List Str}
theorem rel_fro {G H : Hp} (g : Same G H) {vs : List V} {ds : List D} (r : RpAll K G vs ds) : Rel K (vs.map some) G H (ds.map .fro) := by
  have nown : ∀ (i : Nat) (d : D), (ds.map Cell.fro)[i]? ≠ some (.own d) := fun i d z => by
    rw [List.getElem?_map] at z
    cases q : ds[i]? with
    | none => rw [q] at z; cases z
    | some _ => rw [q] at z; cases z
  refine ⟨g, by rw [List.length_map, List.length_map, rps_len r], fun i d z => ?_, fun i d z => (nown i d z).elim, fun i _ _ d _ z => (nown i d z).elim⟩
  rw [List.getElem?_map] at z
  cases q : ds[i]? with
  | none => rw [q] at z; cases z
  | some d' =>
    rw [q] at z
    cases z
    obtain ⟨v, hv, rv⟩ := rps_get' r q
    exact ⟨v, by rw [List.getElem?_map, hv]; rfl, rv⟩
theorem ow_fro {vs : List V} {ds : List D} {p : Addr} {more : L2.St} {un : Cs} (hu : ∀ (i : Nat) (d : D), un[i]? ≠ some (.own d)) : ¬ Ow (vs.map some ++ more) (ds.map .fro ++ un) p := by
  rintro ⟨i, d, z, _⟩
  by_cases hi : i < (ds.map Cell.fro).length
  · rw [List.getElem?_append_left hi, List.getElem?_map] at z
    cases q : ds[i]? with
    | none => rw [q] at z; cases z
    | some _ => rw [q] at z; cases z
  · rw [List.getElem?_append_right (by omega)] at z
    exact hu _ _ z
theorem fn_ofF {x qual : Str} {st : Stmt} {N : List Str} {np m : Nat} {b : MS} (Fu : Fun K x qual st f fd) (S : FnScope N ps (defScope st)) (hp : ps.length = np) (hm : N.length - ps.length = m)
    (body : ∀ (cdv : Value) (Ar : Around) (out : List PySem.Env) (s0 : Shared) (H : Hp) (E : XK), Bare Ar → Room k (Ar.deeper (envOfC qual (defScope st) s0.heap.objs.size f cdv)) →
      SBF K (cxOf CX0 P w K mg base N qual (defScope st) f cdv Ar out s0 H E).nox (defBody st) b) : FnF P w K mg base (k + 1) f fd ps (FofF np m b) := by
  subst hp hm
  refine ⟨okG Fu S (fun vs H Q E h => h.1) fun cdv Ar out s0 H vs Q E hG hr hsp => ?_, fun ds k k' w h => ?_, fun ds k h => h.1⟩
  · obtain ⟨hl, G, ds, g, r, hd, k0, w0, q⟩ := hsp
    have sb := body cdv Ar out s0 H E hG hr
    have R0 := (rel_fro g r).more (N.length - ps.length)
    have e0 : vs.map some ++ List.replicate (N.length - ps.length) none = L2.start N vs := by unfold L2.start; rw [hl]
    have nu : ∀ (i : Nat) (d : D), (List.replicate (N.length - ps.length) Cell.un)[i]? ≠ some (.own d) := fun i d z => by
      rw [List.getElem?_replicate] at z
      split at z <;> cases z
    rw [e0] at R0
    refine ⟨_, sb.ps, G, _, _, R0, q, fun v d σ' G' H' ρ' R' l f hk => ?_⟩
    obtain ⟨p, o, ev, h0, nw, hp, gp, ob⟩ := f
    refine w0 d hk v G' H' R'.gh ⟨l.st.gg, fun a u _ z => l.st.hh a u ?_ z, fun a u _ z => l.st.fr a u ?_ z, l.st.dom⟩ ⟨p, o, ev, h0, hp, gp, ob⟩
    · rw [← e0]; exact ow_fro nu
    · rw [← e0]; exact ow_fro nu
  · obtain ⟨h1, k0, h2, h3⟩ := h
    exact ⟨h1, k0, fun d z => w d (h2 d z), h3⟩
end
section
variable {K : PySem.W.Frag} {X : Cx} {a b : Expr} {es : List Expr} {ma : ME} {pos : Pos}
def mCallF (F : Ff) (ma : MA) : ME := fun ρ k => ma ρ fun ds ρ1 => F ds fun d => k d ρ1
theorem se_callF {F : Ff} {mr : MA} {k j : Nat} {f : Addr} {fd : FuncData} {ps : List Str} {x : Str} {p : Pos} (Fn : FnF X.prog X.w K X.mg X.base j f fd ps F) (hK : X.K = K) (hG : Bare X.A) (hr : Room k X.A) (hj : j ≤ k) (hg : Gl X x) (hm : X.mg x = some (.ref f)) (hk : PySem.W.keepIn K (.ref f) = true) (hb : Binds K fd ps []) (ha : SA K X (a :: es) mr)
    (hdb : (x == ("__debug__" : Str)) = false := by decide) (he : starEach (a :: es) X.env = (false, eval a X.env) :: starEach es X.env := by rfl) (hpl : (backTo pos (starEach es X.env)).any (·.1) = false := by rfl) : SE K (fF K) X (.Call (.Name x p) (a :: es) [] pos) (mCallF F mr) := by
  subst hK
  refine ⟨fun ρ k k' w => ha.mono ρ _ _ fun ds ρ1 => Fn.mo _ _ _ fun d => w d ρ1, pe_weak (pe_callG (E := fun _ _ _ => False) Fn.ok hG (hr.mono hj) hg hm hk hb pass0 ha.pa hdb he hpl) fun σ H Q ⟨G, ρ, R, q⟩ => ⟨G, ρ, R, ha.mono ρ _ _ (fun ds ρ1 q vs G1 H1 R1 l1 rs => ?_) q⟩⟩
  show spF X.K ps.length F (vs ++ []) H1 Q _
  rw [List.append_nil]
  refine ⟨by rw [rps_len rs]; exact Fn.ln _ _ q, G1, ds, R1.gh, rs, Fn.mo _ _ _ (fun d q v G2 H2 gh st pv => ?_) q⟩
  exact q v G2 H2 (R1.pure st gh) (l1.trans (.pure st)) (embF σ ρ ρ1 G H G1 H1 G2 H2 v d R1 l1 pv)
/-! ### slices -/
abbrev MO := Cs → (Option Int → Cs → Prop) → Prop
def pNo : MO := fun ρ k => k none ρ
def pSome (m : ME) : MO := fun ρ k => m ρ fun d ρ1 => match d with
  | .int i => k (some i) ρ1
  | _ => False
def tO (K : PySem.W.Frag) (m : MO) : TO := fun σ H Q => ∃ G ρ, Rel K σ G H ρ ∧ m ρ fun o ρ' => ∀ G' H', Rel K σ G' H' ρ' → Lk 0 σ G H ρ σ G' H' ρ' → Q o H'
structure SO (K : PySem.W.Frag) (X : Cx) (e : Option Expr) (m : MO) : Prop where
  mono : Mo m
  po : PO X e (tO K m)
theorem po_weak {e : Option Expr} {t t' : TO} (h : PO X e t) (w : ∀ σ H Q, t' σ H Q → t σ H Q) : PO X e t' := ⟨fun pins s σ H Q I q => h.run pins s σ H Q I (w σ H Q q)⟩
theorem so_none : SO K X none pNo := ⟨fun _ _ _ w => w _ _, po_weak po_none fun σ H Q ⟨G, ρ, R, q⟩ => q G H R .refl⟩
theorem so_some {e : Expr} {m : ME} (h : SE K (fE K) X e m) : SO K X (some e) (pSome m) := by
  refine ⟨fun ρ k k' w => h.mono ρ _ _ fun d ρ1 q => ?_, po_weak (po_some h.pe) fun σ H Q ⟨G, ρ, R, q⟩ => ⟨G, ρ, R, h.mono ρ _ _ (fun d ρ1 q v G1 H1 R1 l r => ?_) q⟩⟩
  · cases d <;> first | exact q.elim | exact w _ _ q
  · cases d <;> first | exact q.elim | skip
    cases r
    exact ⟨_, rfl, q G1 H1 R1 l⟩
def cutD {α : Type} (xs : List α) (lo hi : Option Int) : List α := (xs.drop (HT.sIx xs.length 0 lo)).take (HT.sIx xs.length xs.length hi - HT.sIx xs.length 0 lo)
def oSlice (d : D) (lo hi : Option Int) (k : D → Prop) : Prop := match d with
  | .list xs => k (.list (cutD xs lo hi))
  | .tuple c xs => k (.tuple (tkAdd c c) (cutD xs lo hi))
  | .str z => z.length ≤ sizeLine ∧ k (.str (cutS z lo hi))
  | _ => False
theorem mo_slice {d : D} {lo hi : Option Int} {k k' : D → Prop} (w : ∀ d, k d → k' d) (h : oSlice d lo hi k) : oSlice d lo hi k' := by
  cases d <;> first | exact h.elim | exact w _ h | exact ⟨h.1, w _ h.2⟩
theorem rps_take {G : Hp} : ∀ (n : Nat) {xs : List V} {ds : List D}, RpAll K G xs ds → RpAll K G (xs.take n) (ds.take n)
  | 0, _, _, _ => .nil
  | _ + 1, _, _, .nil => .nil
  | n + 1, _, _, .cons a r => .cons a (rps_take n r)
theorem rps_drop {G : Hp} : ∀ (n : Nat) {xs : List V} {ds : List D}, RpAll K G xs ds → RpAll K G (xs.drop n) (ds.drop n)
  | 0, _, _, r => r
  | _ + 1, _, _, .nil => .nil
  | n + 1, _, _, .cons _ r => rps_drop n r
theorem rps_cut {G : Hp} {xs : List V} {ds : List D} (r : RpAll K G xs ds) (lo hi : Option Int) : RpAll K G (cutV xs lo hi) (cutD ds lo hi) := by
  unfold cutV cutD
  rw [rps_len r]
  exact rps_take _ (rps_drop _ r)
def rSlO (K : PySem.W.Frag) : V → Option Int → Option Int → Hp → VK → Prop := fun x lo hi H Q => ∃ G d, Same G H ∧ Vw K G H x d ∧ oSlice d lo hi (Then K (pE K) G H Q)
theorem slr_data : SlR X (rSlO X.K) := by
  intro pins s σ H x v vl vu lo hi sl Q I rx hs pl pu h
  obtain ⟨G, d, g, hx, q⟩ := h
  cases d with
  | list xs =>
    obtain ⟨p, ys, rfl, rd, ra⟩ := vw_list g hx
    exact sl_list pins s σ H _ v vl vu lo hi sl Q I rx hs pl pu ⟨p, ys, rfl, .inl rd, fun n nn => newG g q nn (.lst (.inl upd_same) (rps_same (same_upd (g.free nn)) (rps_cut ra lo hi)))⟩
  | tuple c xs =>
    obtain ⟨p, ys, rfl, r0, sq, ra⟩ := vw_tup g hx
    refine sl_tupA pins s σ H _ v vl vu lo hi sl Q I rx hs pl pu ⟨p, ys, rfl, sq, fun wh => ?_, fun _ n nn => newG g q nn (rp_any (.tup upd_same (rps_same (same_upd (g.free nn)) (rps_cut ra lo hi))))⟩
    have e : cutD xs lo hi = xs := by
      unfold cutD
      rw [rps_len ra] at wh
      rw [wh.1, wh.2, Nat.sub_zero, List.drop_zero, List.take_length]
    have q : Then X.K (pE X.K) G H Q (.tuple (tkAdd c c) (cutD xs lo hi)) := q
    rw [e] at q
    exact stay g q (rp_andL r0)
  | str z =>
    have ex := vw_str hx
    subst ex
    exact sl_str pins s σ H _ v vl vu lo hi sl Q I rx hs pl pu ⟨z, rfl, q.1, stay g q.2 (.str _)⟩
  | _ => exact q.elim
def mSlice (ma : ME) (ml mh : MO) : ME := fun ρ k => ma ρ fun da ρ1 => ml ρ1 fun lo ρ2 => mh ρ2 fun hi ρ3 => oSlice da lo hi fun d => k d ρ3
theorem se_slice {lo hi : Option Expr} {ml mh : MO} {p2 : Pos} (hK : X.K = K) (ha : SE K (fE K) X a ma) (hl : SO K X lo ml) (hh : SO K X hi mh) : SE K (fE K) X (.Subscript a (.Slice lo hi none p2) pos) (mSlice ma ml mh) := by
  subst hK
  refine ⟨fun ρ k k' w => ha.mono ρ _ _ fun da ρ1 => hl.mono ρ1 _ _ fun l ρ2 => hh.mono ρ2 _ _ fun h ρ3 => mo_slice fun d => w d ρ3, pe_weak (pe_slice slr_data ha.pe hl.po hh.po) fun σ H Q ⟨G, ρ, R, q⟩ => ⟨G, ρ, R, ha.mono ρ _ _ (fun da ρ1 q x G1 H1 R1 l1 rx => ?_) q⟩⟩
  refine ⟨G1, ρ1, R1, hl.mono ρ1 _ _ (fun l ρ2 q G2 H2 R2 l2 => ⟨G2, ρ2, R2, hh.mono ρ2 _ _ (fun h ρ3 q G3 H3 R3 l3 => ?_) q⟩) q⟩
  refine ⟨G3, da, R3.gh, .fro (rp_same (l2.trans l3).st.gg rx), mo_slice (fun d q v G4 H4 gh st pv => ?_) q⟩
  exact q v G4 H4 (R3.pure st gh) (((l1.trans l2).trans l3).trans (.pure st)) pv
/-! ### list(d): its keys -/
def oKeys : O1 := fun a k => match a with
  | .dict ps => k (.list (ps.map (·.1)))
  | _ => False
theorem mo_keys : Mo1 oKeys := fun a k k' w h => by cases a <;> first | exact h.elim | exact w _ h
theorem rps_keys {G : Hp} : ∀ ks : List Key, RpAll K G (ks.map kV) (ks.map keyD)
  | [] => .nil
  | .inl i :: ks => .cons (.int i) (rps_keys ks)
  | .inr x :: ks => .cons (.str x) (rps_keys ks)
theorem zipk : ∀ {ks : List Key} {xs : List V}, ks.length = xs.length → (ks.zip xs).map (fun kv => kV kv.1) = ks.map kV
  | [], _, _ => rfl
  | _ :: _, [], h => by cases h
  | k :: ks, x :: xs, h => by rw [List.zip_cons_cons, List.map_cons, zipk (Nat.succ.inj h)]; rfl
/-- tuples that are tracked are taken into G -/
def withT (G H : Hp) : Hp := fun a => match H a with
  | some (.tup xs) => some (.tup xs)
  | _ => G a
theorem withT_same {G H : Hp} (g : Same G H) : Same G (withT G H) ∧ Same (withT G H) H ∧ Stp Pure G H (withT G H) H := by
  have h1 : Same G (withT G H) := fun b o e => by
    unfold withT
    rw [g b o e]
    cases o <;> first | rfl | exact e
  have h2 : Same (withT G H) H := fun b o e => by
    unfold withT at e
    cases q : H b with
    | none =>
      rw [q] at e
      dsimp only at e
      rw [g b o e] at q
      cases q
    | some u =>
      rw [q] at e
      cases u <;> first | exact e | (dsimp only at e; have z := g b o e; rw [q] at z; exact z)
  refine ⟨h1, h2, h1, fun a o _ e => e, fun a o _ e g0 t => ?_, fun a e => e⟩
  unfold withT
  rw [e]
  cases o <;> first | exact g0 | cases t
theorem withT_at {G H : Hp} {a : Addr} {xs : List V} (e : H a = some (.tup xs)) : withT G H a = some (.tup xs) := by
  unfold withT
  rw [e]
theorem se_list_dict {p : Pos} (hK : X.K = K) (hc : X.calm = true) (hg : Gl X "list") (hm : X.mg "list" = none) (ha : SE K (fV K) X a ma) (hs : starEach [a] X.env = [(false, eval a X.env)] := by rfl) (hpl : (backTo pos (starEach [] X.env)).any (·.1) = false := by rfl) :
    SE K (fF K) X (.Call (.Name "list" p) [a] [] pos) (mUn oKeys ma) := by
  subst hK
  refine se_t1 (T := "list") (π := pF X.K) (r := fun xs H Q => (∃ (b : Addr) (kvs : List (Key × V)), xs = [.ref b] ∧ Rd H b (.dK kvs) ∧ ∀ p, H p = none → Q (.ref p) (upd H p (.lst (kvs.map fun kv => kV kv.1)))) ∨
      (∃ d kvs, xs = [V.ref d] ∧ Rd H d (.dT kvs) ∧ ∀ p bs, H p = none → IsKeys H kvs bs → Q (.ref p) (upd H p (.lst (bs.map V.ref))))) (fun pins s σ H xs us Q I r h => ?_) (fun y H Q h => ?_) mo_keys embF hg hm (by decide +kernel) ha hs (by decide) (by decide) hpl
  · rcases h with h | h
    · exact call_listD hc pins s σ H xs us Q I r h
    · exact call_list_dT hc pins s σ H xs us Q I r h
  obtain ⟨G, d, g, hx, q⟩ := h
  cases d <;> first | exact q.elim | skip
  obtain ⟨b, rfl, c⟩ := vw_dict g hx
  rcases c with ⟨ks, xs, ds, rd, hl, ra, rfl⟩ | ⟨ks, xs, ds, rd, hl, ra, rfl⟩
  · refine .inl ⟨b, _, rfl, rd, fun n nn => newF g q nn ?_⟩
    have le := rps_len ra
    rw [show ((ks.map keyD).zip ds).map (·.1) = ks.map keyD from List.map_fst_zip (by simp; omega), show (ks.zip xs).map (fun kv => kV kv.1) = ks.map kV from zipk hl]
    exact .lst (rps_keys ks)
  · refine .inr ⟨b, _, rfl, rd, fun n bs nn ik => ?_⟩
    have le := rps_len ra
    obtain ⟨h1, h2, h3⟩ := withT_same g
    have kk : ∀ {ks : List (List Key)} {xs : List V} {bs : List Addr}, ks.length = xs.length → IsKeys H (ks.zip xs) bs → RpAll X.K (withT G H) (bs.map V.ref) (ks.map fun k => D.tuple .mad (k.map keyD)) := by
      intro ks
      induction ks with
      | nil => intro xs bs _ h; cases h; exact .nil
      | cons k ks ih =>
        intro xs bs hl h
        cases xs with
        | nil => cases hl
        | cons x xs =>
          cases h with
          | cons e t => exact .cons (.tup (withT_at e) (rps_keys k)) (ih (Nat.succ.inj hl) t)
    have q : Then X.K (pF X.K) G H Q (.list (((ks.map fun k => D.tuple .mad (k.map keyD)).zip ds).map (·.1))) := q
    rw [show ((ks.map fun k => D.tuple .mad (k.map keyD)).zip ds).map (·.1) = ks.map fun k => D.tuple .mad (k.map keyD) from List.map_fst_zip (by simp; omega)] at q
    exact q _ (withT G H) _ (same_new1 h2 nn) (h3.trans (stp_new nn)) ⟨n, _, rfl, nn, upd_same, h2.free nn, .lst (kk hl ik)⟩
/-! ### d.pop(key) of an owned dict, the key there -/
def dropKs (ps : List (D × D)) (k : Key ⊕ List Key) : List (D × D) := ps.filter fun p => decide (kOf p.1 ≠ some k)
theorem drop_T {G : Hp} {k : List Key} : ∀ {ks : List (List Key)} {xs : List V} {ds : List D}, ks.length = xs.length → RpAll K G xs ds →
    ∃ (qs : List (List Key)) (ys : List V) (es : List D), dropK (ks.zip xs) k = qs.zip ys ∧ qs.length = ys.length ∧ RpAll K G ys es ∧ dropKs ((ks.map fun k => D.tuple .mad (k.map keyD)).zip ds) (.inr k) = (qs.map fun k => D.tuple .mad (k.map keyD)).zip es
  | [], xs, ds, hl, r => by
    cases xs with
    | nil => exact ⟨[], [], [], rfl, rfl, .nil, rfl⟩
    | cons _ _ => cases hl
  | q :: ks, _, _, hl, .nil => by cases hl
  | q :: ks, x :: xs, e :: ds, hl, .cons r rs => by
    obtain ⟨qs, ys, es, h1, h2, h3, h4⟩ := drop_T (k := k) (ks := ks) (Nat.succ.inj hl) rs
    unfold dropK dropKs at *
    by_cases z : q = k
    · refine ⟨qs, ys, es, ?_, h2, h3, ?_⟩
      · rw [List.zip_cons_cons, List.filter_cons_of_neg (by simp [z])]
        exact h1
      · rw [List.map_cons, List.zip_cons_cons, List.filter_cons_of_neg (by simp only [kOf_T]; simp [z])]
        exact h4
    · refine ⟨q :: qs, x :: ys, e :: es, ?_, congrArg (· + 1) h2, .cons r h3, ?_⟩
      · rw [List.zip_cons_cons, List.filter_cons_of_pos (by simp [z]), h1]; rfl
      · rw [List.map_cons, List.zip_cons_cons, List.filter_cons_of_pos (by simp only [kOf_T]; simp [z]), h4]; rfl
def sDPop (i : Nat) (mk : ME) : MS := fun E ρ => mOwn i ρ fun d0 _ => (∃ ps, d0 = .dict ps) ∧ mk ρ fun dk ρ2 => match ρ2[i]? with
  | some (.own (.dict ps)) => match kOf dk with
    | some (.inr k) => (dLook ps dk).isSome = true ∧ E.nx (ρ2.set i (.own (.dict (dropKs ps (.inr k)))))
    | _ => False
  | _ => False
/-- what is asked of the values -/
def rPopD (K : PySem.W.Frag) (x y : V) (H : Hp) (Q : VK) : Prop := ∃ G p ob ps dk k, x = .ref p ∧ Same G H ∧ H p = some ob ∧ G p = none ∧ ObR K G ob (.dict ps) ∧ Rp K G y dk ∧ kOf dk = some (.inr k) ∧ (dLook ps dk).isSome = true ∧
  ∀ v ob', ObR K G ob' (.dict (dropKs ps (.inr k))) → Q v (upd H p ob')
theorem pop_run {pins : List (Addr × Obj)} {σ : L2.St} {H : Hp} {s : Shared} {Q : VK} {x y : V} {u : Value} {p : Addr} (hu : X.A.units + 1 < cLine) (I : Inv X pins σ H s) (h : rPopD X.K x y H Q) (ex : x = .ref p) (ry : RelV y u) :
    wpAny (model X.prog X.w) X.A (call (.builtin "dict.pop") [.ref p, u]) (EP X pins σ Q) X.xe s := by
  subst ex
  obtain ⟨G, p', ob, ps, dk, k, e, g, hp, gp, ro, rk, ek, hs, q⟩ := h
  cases e
  obtain ⟨c, ed⟩ := kOf_inr ek
  subst ed
  obtain ⟨b, ys, rfl, sq, rr, _⟩ := rp_tup rk
  have ey := key_vals rr
  subst ey
  cases ry
  have isk := key_sq I (sqT_same g sq)
  have lk : dLook ps (.tuple c (k.map keyD)) = look kOf (.inr k) ps := by unfold dLook; rw [ek]
  rw [lk] at hs
  cases ro with
  | @dT ks xs ds hl ra =>
    obtain ⟨z, hd, zs, rel, dd⟩ := dt_of I.hok hp
    have lz := Paired.length rel
    refine call_meetsIn PySem.F.slot_dict_pop dd.typeIs PySem.F.entry_dict_pop (PySem.F.args_dict_pop_2 _ _) (meetsH_dict_pop (tupleKind (mixKind X.prog X.w)) p b hd [] (.inl rfl)) ⟨tupleKind_room_in1 hu, k, zs, isk, dd, by omega, fun at' hat h' dd' hsb => ?_, fun no tk => ?_⟩
    · have r := rel.val k
      rw [hat] at r
      obtain ⟨v0, ev, rv⟩ : ∃ v0, valV (ks.zip xs) k = some v0 ∧ RelV v0 at'.2 := by
        cases ev : valV (ks.zip xs) k with
        | none => rw [ev] at r; exact (show False from r).elim
        | some v0 => rw [ev] at r; exact ⟨v0, rfl, r⟩
      obtain ⟨o, es, ep, hq, h2, h3, h4, _, h5⟩ := dd'
      have lw : withoutH zs k = DT.dropH zs k := rfl
      obtain ⟨qs, ys, es', e1, e2, e3, e4⟩ := drop_T (k := k) hl ra
      refine ⟨v0, upd H p (.dT (dropK (ks.zip xs) k)), d_write I (by rw [hp]; trivial) hsb ⟨o, hq⟩ ⟨Nat.le_trans (dropK_le _ k) z, hd, _, (L2.DX.KT_drop k rel).keeps fun c ys ec => ?_, o, es, ep, hq, h2, h3, h4, h5⟩, rv, q v0 _ (by rw [e1, e4]; exact .dT e2 e3)⟩
      rw [upd_ne (ne_of ec hp (fun z => nomatch z))]
      exact ec
    · exfalso
      have r := rel.val k
      rw [no] at r
      rcases look_T (k := k) hl ra with ⟨v, e, h1, h2, h3⟩ | ⟨h1, h2⟩
      · rw [h1] at r; exact r
      · rw [h2] at hs; cases hs
  | @dK ks xs ds hl ra =>
    exfalso
    have : ∀ {ks : List Key} {ds : List D}, look kOf (.inr k) ((ks.map keyD).zip ds) = none := by
      intro ks
      induction ks with
      | nil => intro ds; rfl
      | cons q ks ih =>
        intro ds
        cases ds with
        | nil => rfl
        | cons d ds =>
          show (if kOf (keyD q) = some (.inr k) then some d else look kOf (.inr k) ((ks.map keyD).zip ds)) = none
          rw [kOf_D, if_neg (fun z => by cases z)]
          exact ih
    rw [this] at hs
    cases hs
def tPopD (K : PySem.W.Frag) (td ty : TE) : TE := fun σ H Q => td σ H fun x H1 => (∃ a, x = .ref a ∧ IsD H1 a) ∧ ty σ H1 fun y H2 => rPopD K x y H2 Q
theorem pe_popD {o e : Expr} {apos cpos : Pos} {td ty : TE} (hu : X.A.units + 1 < cLine) (ho : PE X o td) (he : PE X e ty) (m : M1 X o "pop" apos e cpos) : PE X (.Call (.Attribute o "pop" apos) [e] [] cpos) (tPopD X.K td ty) := by
  constructor
  intro pins s σ H Q I h
  refine wpAny_Call_method m.base m.few m.line PySem.F.plainAttrs_dict PySem.F.slot_dict_pop PySem.F.type_dict_pop (thn (ho.run pins s σ H _ I h) fun u s1 hh => ?_)
  obtain ⟨x, H1, I1, rx, ⟨p, ex, dd⟩, q1⟩ := hh
  subst ex
  obtain rfl : u = Value.ref p := rx
  obtain ⟨t1, t2, _⟩ := isD_at I1 dd
  refine ⟨t1, t2, ?_⟩
  rw [m.trees]
  refine Calls.callWith_builtin rfl (Calls.evalArgs_plain (Calls.spliced_cons (thn (he.run pins s1 σ H1 _ I1 q1) fun iv s2 hh2 => Calls.spliced_nil ?_)))
  obtain ⟨y, H2, I2, ry, q2⟩ := hh2
  exact pop_run hu I2 q2 rfl ry
theorem ss_dpop {n i k : Nat} {o e : Expr} {m : ME} {ap p2 : Pos} (hK : X.K = K) (hr : Room k X.A) (ho : PE X o (tVar i)) (hv : SE K (fE K) X e m) (hm : M1 X o "pop" ap e p2 := by exact ⟨rfl, rfl, rfl, rfl⟩)
    (hsw : swapsWith (.Call (.Attribute o "pop" ap) [e] [] p2) none pos.line X.env = pure false := by rfl) : SS K n X (.Expr (.Call (.Attribute o "pop" ap) [e] [] p2) pos) (sDPop i m) := by
  subst hK
  constructor
  · intro ρ E E' w _ _ _
    refine mo_own ρ _ _ fun d0 _ q => ⟨q.1, hv.mono ρ _ _ (fun dv ρ2 q => ?_) q.2⟩
    split at q
    · split at q
      · exact ⟨q.1, w _ q.2⟩
      · exact q.elim
    · exact q.elim
  · refine ps_weak (ps_expr (pe_popD (Room.u1 hr) ho hv.pe hm) hsw) fun T σ H ⟨G, ρ, E, R, q, w, _⟩ => ?_
    obtain ⟨x, d0, hx, vx, ⟨ps, rfl⟩, q⟩ := own_there R q
    refine ⟨_, hx, vw_isD R.gh vx, G, ρ, R, hv.mono ρ _ _ (fun dk ρ2 q y G2 H2 R2 l2 ry => ?_) q⟩
    split at q
    · rename_i zs e2
      split at q
      · rename_i kk e3
        obtain ⟨p2, ob, y1, y2, y3, y4⟩ := R2.own i _ e2
        rw [hx] at y1
        cases y1
        refine ⟨G2, p2, ob, zs, dk, kk, rfl, R2.gh, y2, y3, y4, ry, e3, q.1, fun v ob' r => ?_⟩
        obtain ⟨R3, l3⟩ := Rel.chg (n := n) R2 e2 hx r
        exact w σ G2 _ _ R3 (l2.up.trans l3) q.2
      · exact q.elim
    · exact q.elim
end
end Dl

set_option Elab.async false
set_option linter.all false
set_option maxRecDepth 100000
set_option maxHeartbeats 4000000
namespace Dl
open PySem PySem.Spec PyProof.Rows L2 Br
section
variable {K : PySem.W.Frag} {X : Cx} {a : Expr} {ma : ME} {pos : Pos}
/-! ### sorted, of pairs (text, number) -/
theorem perm_rps {G : Hp} {us' us : List V} (p : us'.Perm us) : ∀ {ds : List D}, RpAll K G us ds → ∃ ds', ds'.Perm ds ∧ RpAll K G us' ds' := by
  induction p with
  | nil => intro ds r; exact ⟨ds, .refl _, r⟩
  | cons x _ ih =>
    intro ds r
    cases r with
    | cons r rs =>
      obtain ⟨ds', p', r'⟩ := ih rs
      exact ⟨_ :: ds', p'.cons _, .cons r r'⟩
  | swap x y l =>
    intro ds r
    cases r with
    | cons r1 r2 => cases r2 with
      | cons r2 r3 => exact ⟨_ :: _ :: _, List.Perm.swap _ _ _, .cons r2 (.cons r1 r3)⟩
  | trans _ _ ih1 ih2 =>
    intro ds r
    obtain ⟨d1, p1, r1⟩ := ih2 r
    obtain ⟨d2, p2, r2⟩ := ih1 r1
    exact ⟨d2, p2.trans p1, r2⟩
def isPr : D → Bool
  | .tuple _ [.str _, .int _] => true
  | _ => false
def prOf : D → Str × Int
  | .tuple _ [.str x, .int i] => (x, i)
  | _ => (Str.empty, 0)
theorem isPr_at {d : D} (h : isPr d = true) : ∃ c x i, d = .tuple c [.str x, .int i] ∧ prOf d = (x, i) := by
  unfold isPr at h
  split at h
  · exact ⟨_, _, _, rfl, rfl⟩
  · cases h
theorem pr_name {G H : Hp} (g : Same G H) {v : V} {d : D} (r : Rp K G v d) (h : isPr d = true) : NameAt K H v (prOf d) := by
  obtain ⟨c, x, i, rfl, e⟩ := isPr_at h
  rw [e]
  obtain ⟨b, ys, rfl, sq, rr, _⟩ := rp_tup r
  obtain ⟨y, z, rfl, r1, r2⟩ := rps2 rr
  cases r1
  cases r2
  exact ⟨b, rfl, sqT_same g sq⟩
def oSorted_pairs : O1 := fun a k => match a with
  | .list ds => ds.all isPr = true ∧ ∀ ds' : List D, ds'.Perm ds → ds'.Pairwise (fun x y => ltN (prOf y) (prOf x) = false) → k (.list ds')
  | _ => False
theorem mo_sortedP : Mo1 oSorted_pairs := fun a k k' w h => by cases a <;> first | exact h.elim | exact ⟨h.1, fun ds' p q => w _ (h.2 ds' p q)⟩
theorem name_inj {pins : List (Addr × Obj)} {σ : L2.St} {H : Hp} {s : Shared} {v : V} {n m : Str × Int} (I : Inv X pins σ H s) (h : NameAt X.K H v n) (k : NameAt X.K H v m) : n = m := by
  obtain ⟨b, rfl, h⟩ := h
  obtain ⟨c, e, k⟩ := k
  cases e
  have := kVs_inj (I.tuple_inj h k)
  unfold nkeys at this
  cases n
  cases m
  simp at this
  rw [this.1, this.2]
theorem callr_sortedP : CallR X (.builtin "sorted") (fun xs H Q => ∃ x, xs = [x] ∧ rO1 X.K (pF X.K) oSorted_pairs x H Q) := by
  intro pins s σ H xs us Q I r h
  obtain ⟨x, rfl, G, d, g, hx, q⟩ := h
  cases d <;> first | exact q.elim | skip
  rename_i ds
  obtain ⟨p, vs, rfl, rd, ra⟩ := vw_list g hx
  obtain ⟨hall, q⟩ := q
  have nm : ∀ {vs : List V} {ds : List D}, RpAll X.K G vs ds → ds.all isPr = true → ∀ u ∈ vs, ∃ n, NameAt X.K H u n := by
    intro vs
    induction vs with
    | nil => intro ds _ _ u hu; cases hu
    | cons v vs ih =>
      intro ds r h u hu
      cases r with
      | cons r1 r2 =>
        rw [List.all_cons, Bool.and_eq_true] at h
        rcases List.mem_cons.mp hu with z | z
        · subst z; exact ⟨_, pr_name g r1 h.1⟩
        · exact ih r2 h.2 u z
  refine cr_sortedN pins s σ H _ us Q I r ⟨p, vs, nameOf X.K H, rfl, .inl rd, fun u hu => ?_, fun us' n pm pw nn => ?_⟩
  · obtain ⟨m, hm⟩ := nm ra hall u hu
    exact nameOf_at hm
  · obtain ⟨ds', pd, rs'⟩ := perm_rps pm ra
    have hall' : ds'.all isPr = true := List.all_eq_true.mpr fun d hd => List.all_eq_true.mp hall d (pd.mem_iff.mp hd)
    have mp : ∀ {vs : List V} {ds : List D}, RpAll X.K G vs ds → ds.all isPr = true → ds.map prOf = vs.map (nameOf X.K H) := by
      intro vs
      induction vs with
      | nil => intro ds r _; cases r; rfl
      | cons v vs ih =>
        intro ds r h
        cases r with
        | cons r1 r2 =>
          rw [List.all_cons, Bool.and_eq_true] at h
          have e := pr_name g r1 h.1
          rw [List.map_cons, List.map_cons, ih r2 h.2, name_inj I e (nameOf_at e)]
    have em := mp rs' hall'
    have pw1 : (us'.map (nameOf X.K H)).Pairwise (fun x y => ltN y x = false) := List.pairwise_map.mpr pw
    rw [← em] at pw1
    exact newF g (q ds' pd (List.pairwise_map.mp pw1)) nn (.lst rs')
theorem se_sorted_pairs {k : Nat} {p : Pos} (hK : X.K = K) (hr : Room k X.A) (hg : Gl X "sorted") (hm : X.mg "sorted" = none) (ha : SE K (fV K) X a ma) (hs : starEach [a] X.env = [(false, eval a X.env)] := by rfl) (hpl : (backTo pos (starEach [] X.env)).any (·.1) = false := by rfl) :
    SE K (fF K) X (.Call (.Name "sorted" p) [a] [] pos) (mUn oSorted_pairs ma) := by
  subst hK
  exact se_b1 (id := "sorted") callr_sortedP (fun y H Q h => ⟨y, rfl, h⟩) mo_sortedP embF hg hm (by decide +kernel) ha hs (by decide) (by decide) hpl
/-! ### repr of plain things -/
def showD : D → Option Str
  | .none => some "None"
  | .bool b => some (if b then "True" else "False")
  | .str x => some (PyData.shown (.str x))
  | .int i => if i.natAbs.log2 < 1920 then some (PyData.shown (.int i)) else none
  | _ => none
end
end Dl

set_option Elab.async false
set_option linter.all false
set_option maxRecDepth 100000
set_option maxHeartbeats 4000000
namespace Dl
open PySem PySem.Spec PyProof.Rows L2 Br
/-! ### dict(t) of a tuple of pairs -/
theorem tuple_keys_none : typeLookup (.type "tuple") "keys" = pure none := am_miss_of_fast (by first | decide +kernel | rfl)
section
variable {prog : Program} {w : World} {A : Around} {E : Value → Shared → Prop}
theorem miss_tuple {s : Shared} {a : Addr} {o : Obj} {xs : Array Value} {k : Nat} {Q : Option Value → Shared → Prop} (hx : s.heap.get? a = some o) (hc : o.cls = .type "tuple") (hdat : o.data = .seq xs k) (hd : o.dict = none) (hA : A.handled = none)
    (h : ∀ h' tk, (∀ b ob, s.heap.get? b = some ob → h'.get? b = some ob) → Q none { s with heap := h', toks := tk }) : wpAny (model prog w) A (getAttr? (.ref a) "keys") Q E s := by
  rcases o with ⟨c, dct, dat, sl⟩
  simp only at hc hdat hd
  subst hc hdat hd
  rcases s with ⟨hp, g, d, tk, os⟩
  have hT : ∀ tk', (⟨hp, g, d, tk', os⟩ : Shared).TypeIs (.ref a) "tuple" := fun _ => ⟨_, hx, rfl⟩
  have none_there := tuple_keys_none
  have other : (["__module__", "__name__", "__qualname__", "__doc__", "__annotations__"] : List Str).contains "keys" = false := by decide +kernel
  have room : ("keys" : Str).length + 100 ≤ sizeLine := by first | size_fits | decide +kernel
  have g1 := sub_AttributeError
  have g3 := PySem.F.slot_tuple_getattribute.lookup
  have g4 := PySem.F.slot_tuple_getattribute.bind (.ref a)
  have g5 := am_tuple_getattr_none
  unfold getAttr? getAttrBy? getAttrBy
  repeat (any_goals (first | assumption | exact hT _ | ((with_reducible show wpAny _ _ (call (Value.builtin "tuple.__getattribute__") _ _) _ _ _); refine call_meets PySem.F.slot_tuple_getattribute (hT _) am_entry_tuple_getattribute (PySem.F.args_tuple_getattribute_2 _ _) (meets_getattribute_miss_tuple a xs k sl "keys" _ none_there other room) ⟨hx, hA, fun h' tk' e hx' => ?_⟩) | wp_step))
  obtain ⟨t', u', he⟩ := hx'.there
  show wpAny _ _ (getattributeRaised _ _ _ _ _ _ _) _ _ _
  unfold getattributeRaised
  repeat (any_goals (first | assumption | wp_step))
  all_goals first | exact h _ _ hx'.keeps | (dsimp only; repeat (any_goals (first | assumption | exact h _ _ hx'.keeps | wp_step)))
/-- the pairs of a tuple, put one behind the other -/
theorem pairs_loop {R : Result → Shared → Prop} {S J l : Addr} {items : Array Value} {res : Value} (calm : A.handled = none) (nlJ : l ≠ J) (nSJ : S ≠ J) (nSl : S ≠ l) :
    ∀ (todo : List (Key × Value)) (i : Nat) (acc : List (Key × Value)) (ix : Int) (t : Tok) (s : Shared), items.size = i + todo.length → acc.length + todo.length ≤ sizeLine →
      (∀ (j : Nat) (q : Key × Value), todo[j]? = some q → ∃ (b : Addr) (u : Value), items[i + j]? = some (.ref b) ∧ b ≠ S ∧ b ≠ J ∧ IsTup s.heap b #[u, q.2] ∧ keyIs q.1 u = true) →
      s.heap.IsTupleIter J l i → s.heap.IsTuple l items → s.heap.DictOf (mixKind prog w) S acc →
      (∀ h' tk, h'.DictOf (mixKind prog w) S (merged acc todo) → (∀ b o, b ≠ S → b ≠ J → s.heap.get? b = some o → h'.get? b = some o) → R (.ok (.ret res)) { s with heap := h', toks := tk }) →
      codeAny (model prog w) A (.builtin "dict.update.loop" ⟨[.ref S, .ref J, .int ix t, res], []⟩) R s := by
  intro todo
  induction todo with
  | nil =>
    intro i acc ix t s size _ _ it lt dd fin
    refine codeAny_builtin ud_entry (?_ : _)
    rw [Around.under_plainId ud_plain]
    show wpAny _ A.in1 (pyNext (.ref J) >>= _) _ _ s
    have past : items[i]? = none := Array.getElem?_eq_none (by simp at size; omega)
    refine wpAny_bind (wpAny_pyNext_tuple_end (A := A.in1) calm it lt past fun h' ext => ?_)
    show wpAny _ A.in1 (Builtin.Dict.addKeywords S [] >>= _) _ _ (_ : Shared)
    refine wpAny_bind (wpAny_pure (wpAny_pure ?last))
    exact fin h' s.toks (dd.extBut ext nSJ) fun b o _ nb e => ext b o nb e
  | cons q todo ih =>
    intro i acc ix t s size room prs it lt dd fin
    obtain ⟨b, u, at_b, nbS, nbJ, tup_b, is_k⟩ := prs 0 q rfl
    rw [List.length_cons] at size room
    refine codeAny_builtin ud_entry (?_ : _)
    rw [Around.under_plainId ud_plain]
    show wpAny _ A.in1 (pyNext (.ref J) >>= _) _ _ s
    refine wpAny_bind (wpAny_pyNext_tuple_item (x := .ref b) it lt (by simpa using at_b) fun h1 it1 same1 => ?_)
    have tup1 : IsTup h1 b #[u, q.2] := tup_b.extBut same1.extBut nbJ
    have lt1 : h1.IsTuple l items := lt.extBut same1.extBut nlJ
    have dd1 : h1.DictOf (mixKind prog w) S acc := dd.extBut same1.extBut nSJ
    obtain ⟨o, at_o, cls_o, n, dat_o⟩ := id tup1
    show wpAny _ A.in1 (holding [Value.ref b] _ >>= _) _ _ (_ : Shared)
    refine wpAny_bind (wpAny_holding (wpAny_bind (wpAny_tryCatch ?_)))
    unfold Builtin.Dict.pairItems
    refine wpAny_bind (wpAny_typeOf (T := "tuple") ⟨o, at_o, cls_o⟩ ?_)
    rw [if_pos (by first | decide | rfl | simp)]
    refine wpAny_bind (wpAny_seqItems at_o dat_o (wpAny_pure ?_))
    show wpAny _ A.in1 (holding [u, q.2] (dictSet S u q.2)) _ _ (_ : Shared)
    refine wpAny_holding (wpAny_dictSet_pairs (knd := mixKind prog w) (k := q.1) is_k dd1 (fun h2 dd2 same2 => ?_) (by omega))
    have grow := stored_length_le acc q.1 q.2
    refine wpAny_pure ⟨plainId_quiet ud_plain _, ih (i + 1) (stored acc q.1 q.2) (ix + 1) 0 _ (by omega) (by omega) (fun j q' e => ?_) ?_ ?_ dd2 fun h' tk dd' keep => ?_⟩
    · obtain ⟨b', u', x1, x2, x3, x4, x5⟩ := prs (j + 1) q' (by simpa using e)
      exact ⟨b', u', by rw [show i + 1 + j = i + (j + 1) by omega]; exact x1, x2, x3, (x4.extBut same1.extBut x3).extBut same2.extBut x2, x5⟩
    · obtain ⟨o', y1, y2⟩ := it1
      exact ⟨o', same2.extBut J o' (Ne.symm nSJ) y1, y2⟩
    · exact lt1.extBut same2.extBut (Ne.symm nSl)
    · exact fin h' tk dd' fun c oc n1 n2 e => keep c oc n1 n2 (same2.extBut c oc n1 (same1.extBut c oc n2 e))
/-- dict(t) of a tuple of pairs -/
theorem call_dict_tup {s : Shared} {l : Addr} {ol : Obj} {items : Array Value} {n : Nat} {prs : List (Key × Value)} {Q : Value → Shared → Prop} (calm : A.handled = none) (at_l : s.heap.get? l = some ol) (cls : ol.cls = .type "tuple") (nod : ol.dict = none)
    (dat : ol.data = .seq items n) (size : items.size = prs.length) (room : prs.length ≤ sizeLine)
    (each : ∀ (j : Nat) (q : Key × Value), prs[j]? = some q → ∃ (b : Addr) (u : Value), items[j]? = some (.ref b) ∧ IsTup s.heap b #[u, q.2] ∧ keyIs q.1 u = true)
    (h : ∀ h' tk, h'.DictOf (mixKind prog w) s.heap.objs.size (merged [] prs) → (∀ b o, s.heap.get? b = some o → h'.get? b = some o) → Q (.ref s.heap.objs.size) { s with heap := h', toks := tk }) :
    wpAny (model prog w) A (call (.type "dict") [.ref l]) Q E s := by
  refine callType_codes (Q₁ := fun obj s₁ => obj = .ref s.heap.objs.size ∧ s₁ = { s with heap := s.heap.push { cls := .type "dict", data := .dict #[] } }) PySem.F.kt_called_dict (PySem.F.kt_typeCall_dict_1 _) PySem.F.entry_dict_init (kt_code_dict_new _ ⟨rfl, rfl⟩) fun obj s₁ e => ?_
  obtain ⟨rfl, rfl⟩ := e
  have new : (s.heap.push { cls := .type "dict", data := .dict #[] }).DictOf (mixKind prog w) s.heap.objs.size [] := Heap.DictOf.new s.heap
  have old : ∀ b o, s.heap.get? b = some o → (s.heap.push { cls := .type "dict", data := .dict #[] }).get? b = some o := fun b o z => Heap.get?_push_of_some _ z
  refine ⟨new.typeIs, PySem.F.args_dict_init_2 _ _, ?_⟩
  unfold Builtin.«dict.__init__» Builtin.Dict.selfAndRest
  refine wpAny_bind (wpAny_bind (wpAny_notOrdered_dict new.typeIs ?_))
  show wpAny _ _ (pure (s.heap.objs.size, [Value.ref l])) _ _ (_ : Shared)
  refine wpAny_pure ?_
  show wpAny _ _ (Builtin.Dict.updateFrom "dict.__init__" s.heap.objs.size (.ref l) [] .none) _ _ (_ : Shared)
  unfold Builtin.Dict.updateFrom
  refine wpAny_bind (wpAny_typeOf (T := "tuple") ⟨ol, old _ _ at_l, cls⟩ ?_)
  rw [if_pos (by first | decide | rfl | simp)]
  refine wpAny_bind (miss_tuple (old _ _ at_l) cls dat nod calm fun h1 tk1 k1 => ?_)
  rw [if_pos (show (none : Option Value).isNone = true from rfl)]
  have lt1 : h1.IsTuple l items := ⟨ol, k1 _ _ (old _ _ at_l), cls, n, dat⟩
  have mine : (s.heap.push { cls := .type "dict", data := .dict #[] }).get? s.heap.objs.size = some { cls := .type "dict", data := .dict #[] } := Heap.get?_push_size _ rfl
  have big : s.heap.objs.size < h1.objs.size := Heap.lt_size (k1 _ _ mine)
  refine wpAny_bind (wpAny_rule (wpAny_bind (wpAny_pyIter_tuple lt1 ?_)))
  have k2 : ∀ b o, h1.get? b = some o → (h1.push { cls := .type "tuple_iterator", data := .fields #[.ref l, .int 0 0] }).get? b = some o := fun b o z => Heap.get?_push_of_some _ z
  have low : l < s.heap.objs.size := Heap.lt_size at_l
  have run := pairs_loop (prog := prog) (w := w) (A := A.in1) (R := wants (fun r s₂ => r = .none ∧ Q (.ref s.heap.objs.size) s₂) E) (S := s.heap.objs.size) (J := h1.objs.size) (l := l) (items := items) (res := Value.none) calm
    (Nat.ne_of_lt (Nat.lt_trans low big)) (Nat.ne_of_lt big) (Nat.ne_of_gt low) prs 0 [] 0 0
    { s with heap := h1.push { cls := .type "tuple_iterator", data := .fields #[.ref l, .int 0 0] }, toks := tk1 } (by omega) (by simpa using room)
    (fun j q e => by
      obtain ⟨b, u, e1, e2, e3⟩ := each j q e
      have hb : b < s.heap.objs.size := e2.lt
      exact ⟨b, u, by rw [Nat.zero_add]; exact e1, Nat.ne_of_lt hb, Nat.ne_of_lt (Nat.lt_trans hb big), e2.keeps fun c o z => k2 _ _ (k1 _ _ (old _ _ z)), e3⟩)
    ⟨_, Heap.get?_push_size _ rfl, rfl, rfl⟩ (lt1.push _) ((new.at fun o e => k1 _ _ e).at fun o e => k2 _ _ e)
    (fun h' tk dd keep => ⟨rfl, h h' tk dd fun b o e => keep b o (Nat.ne_of_lt (Heap.lt_size e)) (Nat.ne_of_lt (Nat.lt_trans (Heap.lt_size e) big)) (k2 _ _ (k1 _ _ (old _ _ e)))⟩)
  first
    | exact wpAny_pure ⟨plainId_quiet ud_plain _, run⟩
    | exact wpAny_bind (wpAny_pure (wpAny_pure ⟨plainId_quiet ud_plain _, run⟩))
end
section
variable {K : PySem.W.Frag} {X : Cx} {a : Expr} {ma : ME} {pos : Pos}
/-- the pairs that a dict is made of: keys texts or numbers -/
def prs : List D → Option (List (Key × D))
  | [] => some []
  | .tuple _ [k, v] :: r => match keyOf k, prs r with
    | some q, some rs => some ((q, v) :: rs)
    | _, _ => none
  | _ => none
def mergeD (acc : List (D × D)) (more : List (Key × D)) : List (D × D) := more.foldl (fun acc kv => putKs acc (.inl kv.1) (keyD kv.1) kv.2) acc
def oDict_pairs : O1 := fun a k => match a with
  | .list ds => match prs ds with
    | some ps => k (.dict (mergeD [] ps))
    | none => False
  | .tuple .frz ds => match prs ds with
    | some ps => k (.dict (mergeD [] ps))
    | none => False
  | _ => False
theorem mo_dictP : Mo1 oDict_pairs := fun a k k' w h => by
  unfold oDict_pairs at h ⊢
  split at h
  · split at h
    · exact w _ h
    · exact h.elim
  · split at h
    · exact w _ h
    · exact h.elim
  · exact h.elim
theorem prs_V {G H : Hp} (g : Same G H) : ∀ {vs : List V} {ds : List D} {ps : List (Key × D)}, RpAll K G vs ds → prs ds = some ps → ∃ (as : List Addr) (kvs : List (Key × V)), vs = as.map V.ref ∧ Paired (fun p kv => SqT K H p [kV kv.1, kv.2]) as kvs ∧ kvs.map (·.1) = ps.map (·.1) ∧ RpAll K G (kvs.map (·.2)) (ps.map (·.2))
  | _, _, _, .nil, h => by
    cases h
    exact ⟨[], [], rfl, .nil, rfl, .nil⟩
  | _, _, _, .cons (d := d) r rs, h => by
    unfold prs at h
    split at h
    · rename_i e; cases e
    · rename_i c k v r' e
      cases e
      split at h
      · rename_i q rs' e1 e2
        cases h
        obtain ⟨as, kvs, h1, h2, h3, h4⟩ := prs_V g rs e2
        have ek := keyOf_inv e1
        subst ek
        obtain ⟨b, ys, rfl, sq, ry, _⟩ := rp_tup r
        obtain ⟨x, y, rfl, r1, r2⟩ := rps2 ry
        have ex := key_val (H := H) (.fro r1)
        subst ex
        exact ⟨b :: as, (q, y) :: kvs, by rw [h1]; rfl, .cons (sqT_same g sq) h2, by rw [List.map_cons, List.map_cons, h3], .cons r2 h4⟩
      · cases h
    · cases h
theorem merge_ob {G : Hp} : ∀ {kvs : List (Key × V)} {ps : List (Key × D)} {acc : List (Key × V)} {dcc : List (D × D)}, kvs.map (·.1) = ps.map (·.1) → RpAll K G (kvs.map (·.2)) (ps.map (·.2)) → ObR K G (.dK acc) (.dict dcc) → ObR K G (.dK (mergeK acc kvs)) (.dict (mergeD dcc ps))
  | [], [], _, _, _, _, o => o
  | [], _ :: _, _, _, h, _, _ => by cases h
  | _ :: _, [], _, _, h, _, _ => by cases h
  | (k, v) :: kvs, (q, d) :: ps, acc, dcc, h, r, o => by
    have e1 : k = q := (List.cons.inj h).1
    subst e1
    cases r with
    | cons r1 r2 =>
      refine merge_ob (acc := putK acc k v) (dcc := putKs dcc (.inl k) (keyD k) d) (List.cons.inj h).2 r2 ?_
      generalize eo : HO.dK acc = ob at o
      generalize ed : D.dict dcc = dd at o
      cases o with
      | lst _ => cases eo
      | dT _ _ => cases eo
      | dK hl ra =>
        cases eo
        cases ed
        exact put_K hl ra r1
theorem callr_dictP (hc : X.calm = true) : CallR X (.type "dict") (fun xs H Q => ∃ x, xs = [x] ∧ rO1 X.K (pF X.K) oDict_pairs x H Q) := by
  intro pins s σ H xs us Q I r h
  obtain ⟨x, rfl, G, d, g, hx, q⟩ := h
  unfold oDict_pairs at q
  split at q
  · rename_i ds
    split at q
    · rename_i ps e
      obtain ⟨p, vs, rfl, rd, ra⟩ := vw_list g hx
      obtain ⟨as, kvs, h1, h2, h3, h4⟩ := prs_V g ra e
      subst h1
      exact call_dictP hc pins s σ H _ us Q I r ⟨p, as, kvs, rfl, .inl rd, h2, fun n nn => newF g q nn (merge_ob h3 h4 (.dK (ks := []) (xs := []) (ds := []) rfl .nil))⟩
    · exact q.elim
  · rename_i ds
    split at q
    · rename_i ps e
      have hr : ∃ p o ys, x = .ref p ∧ G p = some (.frz o (.tup ys)) ∧ o.dict = none ∧ RpAll X.K G ys ds := by
        cases hx with
        | fro r0 => cases r0 with
          | tupZ s0 n0 a0 => exact ⟨_, _, _, rfl, s0, n0, a0⟩
        | own _ r0 => cases r0
      obtain ⟨p, o, ys, rfl, sz, nod, ra⟩ := hr
      obtain ⟨as, kvs, h1, h2, h3, h4⟩ := prs_V g ra e
      subst h1
      obtain ⟨u, rfl, rx⟩ := vals1 r
      cases rx
      obtain ⟨at_o, z, its, rv, o', ho', hc', n, hd'⟩ := (show ObjOk X.prog X.w H s.heap p (.frz o (.tup (as.map V.ref))) from I.hok _ _ (g _ _ sz))
      rw [at_o] at ho'
      cases ho'
      have ei := refs_at rv
      subst ei
      obtain ⟨prs', rel, hl, hpr⟩ := pairs_of I h2
      rw [List.length_map] at z
      refine call_dict_tup (prs := prs') (I.ok.hd hc) at_o hc' nod hd' (by simp [hl]) (by rw [hl]; exact z) (fun j q' e' => ?_) fun h' tk dd keep => ?_
      · obtain ⟨b, u, e1, e2, e3⟩ := hpr j q' e'
        exact ⟨b, u, by simp [e1], e2, e3⟩
      · have big : (s.heap.objs.size == sysModules) = false := beq_eq_false_iff_ne.mpr (Nat.ne_of_gt I.big)
        have len : (mergeK [] kvs).length ≤ sizeLine := Nat.le_trans (length_mergeK kvs []) (by rw [List.length_nil, Nat.zero_add, rel.length, hl]; exact z)
        exact ⟨.ref s.heap.objs.size, upd H s.heap.objs.size (.dK (mergeK [] kvs)), I.laid (t' := tk) keep (Nat.le_refl _) (show ObjOk X.prog X.w _ _ _ (.dK (mergeK [] kvs)) from ⟨len, big, merged [] prs', KV.merge rel .nil, dd⟩), rfl, newF g q (I.hok.fresh (Nat.le_refl _)) (merge_ob h3 h4 (.dK (ks := []) (xs := []) (ds := []) rfl .nil))⟩
    · exact q.elim
  · exact q.elim
theorem se_dict_pairs {p : Pos} (hK : X.K = K) (hc : X.calm = true) (hg : Gl X "dict") (hm : X.mg "dict" = none) (ha : SE K (fV K) X a ma) (hs : starEach [a] X.env = [(false, eval a X.env)] := by rfl) (hpl : (backTo pos (starEach [] X.env)).any (·.1) = false := by rfl) :
    SE K (fF K) X (.Call (.Name "dict" p) [a] [] pos) (mUn oDict_pairs ma) := by
  subst hK
  exact se_t1 (T := "dict") (callr_dictP hc) (fun y H Q h => ⟨y, rfl, h⟩) mo_dictP embF hg hm (by decide +kernel) ha hs (by decide) (by decide) hpl
end
end Dl

set_option Elab.async false
set_option linter.all false
set_option maxRecDepth 100000
set_option maxHeartbeats 4000000
namespace Dl
open PySem PySem.Spec PyProof.Rows L2 Br
section
variable {K : PySem.W.Frag} {X : Cx} {a b : Expr} {ma mb : ME} {pos : Pos} {H : Hp}
/-! ### repr -/
mutual
theorem rp_nd' : ∀ (d : D) (v : V), Rp K H v d → (toPy d).hasDict = false → Dp K H v (toPy d)
  | .none, _, .non, _ => .non
  | .bool _, _, .bl b, _ => .bl b
  | .int _, _, .int i, _ => .int i
  | .str _, _, .str x, _ => .str x
  | .list ds, _, .lst s a, h => .lst (.inl s) (rps_nd' ds _ a h)
  | .tuple .mad ds, _, .tup s a, h => .tup (SqT.of s) (rps_nd' ds _ a h)
  | .tuple .wri ds, _, .tupC s a, h => .tup s (rps_nd' ds _ a h)
  | .tuple .frz ds, _, .tupZ s _ a, h => .tup (.inl (.inr ⟨_, s⟩)) (rps_nd' ds _ a h)
  | .dict _, _, _, h => (Bool.noConfusion h)
  | .scr _, _, _, h => (Bool.noConfusion h)
  | .exc _ _ _, _, _, h => (Bool.noConfusion h)
theorem rps_nd' : ∀ (ds : List D) (vs : List V), RpAll K H vs ds → PyData.hasDictAll (toPys ds) = false → DpAll K H vs (toPys ds)
  | [], _, .nil, _ => .nil
  | d :: ds, _, .cons x r, h => .cons (rp_nd' d _ x (Bool.or_eq_false_iff.mp h).1) (rps_nd' ds _ r (Bool.or_eq_false_iff.mp h).2)
end
def oRepr : O1 := fun d k => (toPy d).showable = true ∧ (toPy d).hasDict = false ∧ (toPy d).depth ≤ 60 ∧ (toPy d).shown.length ≤ sizeLine ∧ k (.str (toPy d).shown)
theorem mo_repr : Mo1 oRepr := fun a k k' w h => ⟨h.1, h.2.1, h.2.2.1, h.2.2.2.1, w _ h.2.2.2.2⟩
theorem callr_repr (hu : X.A.units + 64 < cLine) (hG : Bare X.A) : CallR X (.builtin "repr") (fun xs H Q => ∃ x, xs = [x] ∧ rO1 X.K (pE X.K) oRepr x H Q) := by
  intro pins s σ H xs us Q I r h
  obtain ⟨x, rfl, G, d, g, hx, h1, h2, h3, h4, q⟩ := h
  have rx := vw_rp g hx
  have fin : Q (.str (toPy d).shown) H := stay g q (.str _)
  cases d with
  | none =>
    cases rx
    obtain ⟨u, rfl, e⟩ := vals1 r
    cases e
    exact PySem.P.repr_of_none ⟨.str _, H, I.tok _, ⟨_, rfl⟩, fin⟩
  | bool b =>
    cases rx
    obtain ⟨u, rfl, e⟩ := vals1 r
    cases e
    exact PySem.P.repr_of_bool ⟨.str _, H, I.tok _, ⟨_, rfl⟩, fin⟩
  | int i =>
    cases rx
    obtain ⟨u, rfl, t, rfl⟩ := vals1 r
    exact PySem.P.repr_of_int (of_decide_eq_true h1) ⟨.str _, H, I.tok _, ⟨_, rfl⟩, fin⟩
  | str z =>
    cases rx
    obtain ⟨u, rfl, t, rfl⟩ := vals1 r
    exact PySem.P.repr_of_str ⟨.str _, H, I.tok _, ⟨_, rfl⟩, fin⟩ h4
  | list ds =>
    have dp := rp_nd' _ _ rx h2
    cases rx with
    | lst _ _ => exact call_reprD hu hG pins s σ H _ us Q I r ⟨_, _, rfl, dp, h1, h2, h3, h4, fin⟩
  | tuple c ds =>
    have dp := rp_nd' _ _ rx h2
    obtain ⟨p, ys, rfl, _⟩ := rp_tup rx
    exact call_reprD hu hG pins s σ H _ us Q I r ⟨_, _, rfl, dp, h1, h2, h3, h4, fin⟩
  | dict _ => cases h2
  | scr _ => cases h2
  | fn _ => cases h2
  | exc _ _ _ => cases h2
theorem se_repr {k : Nat} {p : Pos} (hK : X.K = K) (hG : Bare X.A) (hr : Room k X.A) (hg : Gl X "repr") (hm : X.mg "repr" = none) (ha : SE K (fV K) X a ma) (hs : starEach [a] X.env = [(false, eval a X.env)] := by rfl) (hpl : (backTo pos (starEach [] X.env)).any (·.1) = false := by rfl) :
    SE K (fE K) X (.Call (.Name "repr" p) [a] [] pos) (mUn oRepr ma) := by
  subst hK
  exact se_b1 (id := "repr") (callr_repr hr.units hG) (fun y H Q h => ⟨y, rfl, h⟩) mo_repr embE hg hm (by decide +kernel) ha hs (by decide) (by decide) hpl
/-! ### d == {}, d != {} -/
def oDE (neg : Bool) : O2 := fun a b k => match a, b with
  | .dict ps, .dict [] => k (.bool (ps.isEmpty != neg))
  | _, _ => False
theorem mo_DE {neg : Bool} : Mo2 (oDE neg) := fun a b k k' w h => by
  unfold oDE at h ⊢
  split at h
  · exact w _ h
  · exact h.elim
/-- a dict as it lies -/
def RawD (s : Shared) (p : Addr) (n : Nat) : Prop := (p == sysModules) = false ∧ ∃ o es ep, s.heap.get? p = some o ∧ o.ExactDict ∧ o.data = .dict es ep ∧ es.size = n
theorem raw_of {pins : List (Addr × Obj)} {σ : L2.St} {G : Hp} {s : Shared} {x : V} {ps : List (D × D)} (I : Inv X pins σ H s) (g : Same G H) (h : Vw X.K G H x (.dict ps)) : ∃ p, x = .ref p ∧ RawD s p ps.length := by
  obtain ⟨p, e, c⟩ := vw_dict g h
  refine ⟨p, e, ?_⟩
  rcases c with ⟨ks, xs, ds, rd, hl, ra, rfl⟩ | ⟨ks, xs, ds, rd, hl, ra, rfl⟩
  · obtain ⟨_, hd, vs, rel, o, es, ep, h1, h2, h3, h4, h5, h6⟩ := dk_rd I.hok rd
    refine ⟨hd, o, es, ep, h1, h2, h3, ?_⟩
    have e1 := h5.length
    have e2 := rel.length
    have e3 := rps_len ra
    rw [Array.length_toList] at e1
    simp at e2 ⊢
    omega
  · obtain ⟨_, hd, zs, rel, o, es, ep, h1, h2, h3, h4, h5⟩ := dt_rd I.hok rd
    refine ⟨hd, o, es, ep, h1, h2, h3, ?_⟩
    have e1 := size_of_entries h4
    have e2 := Paired.length rel
    have e3 := rps_len ra
    simp at e2 ⊢
    omega
theorem RawD.typeIs {s : Shared} {p : Addr} {n : Nat} (h : RawD s p n) : s.TypeIs (.ref p) "dict" := let ⟨_, o, _, _, e, c, _⟩ := h; ⟨o, e, c.1⟩
theorem same_pairs {prog : Program} {w : World} {A : Around} {E : Value → Shared → Prop} {s : Shared} {p q : Addr} {n : Nat} {nm : String} {Q : Bool → Shared → Prop} (hp : RawD s p n) (hq : RawD s q 0) (h : Q (n == 0) s) : wpAny (model prog w) A (Builtin.Dict.samePairs nm p q) Q E s := by
  obtain ⟨a1, oa, es, ep, a2, _, a3, a4⟩ := hp
  obtain ⟨b1, ob, es', ep', b2, _, b3, b4⟩ := hq
  unfold Builtin.Dict.samePairs Builtin.Dict.showsAll
  rw [if_neg (by rw [a1]; exact Bool.false_ne_true), if_neg (by rw [b1]; exact Bool.false_ne_true)]
  refine wpAny_bind (wpAny_pure (wpAny_bind (wpAny_pure (wpAny_bind (wpAny_dictEntries a2 a3 ?_)))))
  dsimp only
  refine wpAny_bind (wpAny_dictEntries b2 b3 ?_)
  by_cases hz : n = 0
  · subst hz
    rw [if_neg (by rw [a4, b4]; simp)]
    refine wpAny_bind (wpAny_dictEpoch a2 a3 (wpAny_bind ?_))
    rw [Std.Legacy.Range.forIn_eq_forIn_range']
    simp only [Std.Legacy.Range.size, Nat.sub_zero, Nat.add_sub_cancel, Nat.div_one, a4]
    exact wpAny_pure (wpAny_pure h)
  · rw [if_pos (by rw [a4, b4]; simpa using hz)]
    have e : (n == 0) = false := by simpa using hz
    rw [e] at h
    exact wpAny_bind (wpAny_rule (wpAny_pure h))
theorem raw_eq {prog : Program} {w : World} {A : Around} {E : Value → Shared → Prop} {s : Shared} {p q : Addr} {n : Nat} {Q : Value → Shared → Prop} (hp : RawD s p n) (hq : RawD s q 0) (hu : A.units < cLine) (h : Q (.bool (n == 0)) s) : wpAny (model prog w) A (compareOp .Eq (.ref p) (.ref q)) Q E s := by
  refine wpAny_richCompare_same_room (op := .Eq) hp.typeIs hq.typeIs PySem.F.slot_dict_eq (wpAny_call_entry PySem.F.slot_dict_eq hp.typeIs PySem.F.entry_dict_eq ?body (PySem.F.args_dict_eq_2 _ _)) hu
  show wpAny _ _ (Builtin.Dict.dictSlotArgs "__eq__" ⟨[.ref p, .ref q], []⟩ >>= _) _ _ s
  unfold Builtin.Dict.dictSlotArgs
  refine wpAny_bind (wpAny_bind (wpAny_notOrdered_dict hp.typeIs ?_))
  show wpAny _ _ (pure (Value.ref p, Value.ref q)) _ _ s
  refine wpAny_pure (wpAny_bind (wpAny_isInstance (T := "dict") hq.typeIs PySem.F.sub_dict_dict ?_))
  simp only [Bool.not_true, Bool.false_eq_true, if_false]
  refine wpAny_bind (wpAny_pure (wpAny_bind (wpAny_pure (wpAny_bind (same_pairs hp hq ?_)))))
  exact wpAny_pure ⟨_, rfl, (by intro x; cases x), by simpa using h⟩
theorem raw_ne {prog : Program} {w : World} {A : Around} {E : Value → Shared → Prop} {s : Shared} {p q : Addr} {n : Nat} {Q : Value → Shared → Prop} (hp : RawD s p n) (hq : RawD s q 0) (hu : A.units < cLine) (h : Q (.bool (!(n == 0))) s) : wpAny (model prog w) A (compareOp .NotEq (.ref p) (.ref q)) Q E s := by
  refine wpAny_richCompare_same_room (op := .NotEq) hp.typeIs hq.typeIs PySem.F.slot_dict_ne (wpAny_call_entry PySem.F.slot_dict_ne hp.typeIs PySem.F.entry_dict_ne ?body (PySem.F.args_dict_ne_2 _ _)) hu
  show wpAny _ _ (Builtin.Dict.dictSlotArgs "__ne__" ⟨[.ref p, .ref q], []⟩ >>= _) _ _ s
  unfold Builtin.Dict.dictSlotArgs
  refine wpAny_bind (wpAny_bind (wpAny_notOrdered_dict hp.typeIs ?_))
  show wpAny _ _ (pure (Value.ref p, Value.ref q)) _ _ s
  refine wpAny_pure (wpAny_bind (wpAny_isInstance (T := "dict") hq.typeIs PySem.F.sub_dict_dict ?_))
  simp only [Bool.not_true, Bool.false_eq_true, if_false]
  refine wpAny_bind (wpAny_pure (wpAny_bind (wpAny_pure (wpAny_bind (same_pairs hp hq ?_)))))
  exact wpAny_pure ⟨_, rfl, (by intro x; cases x), by simpa using h⟩
theorem emp_len {α : Type} (l : List α) : (l.length == 0) = l.isEmpty := by cases l <;> rfl
theorem c_deq (hK : X.K = K) (hu : X.A.units < cLine) : Cmp K X .Eq (oDE false) := by
  subst hK
  refine ⟨mo_DE, fun pins s σ H x y v u Q I rx ry h => ?_⟩
  obtain ⟨G, a, b, g, hx, hy, q⟩ := h
  unfold oDE at q
  split at q
  · obtain ⟨p, rfl, r1⟩ := raw_of I g hx
    obtain ⟨p2, rfl, r2⟩ := raw_of I g hy
    cases rx
    cases ry
    rw [xor_f, ← emp_len] at q
    exact raw_eq r1 r2 hu ⟨.bl _, H, I, rfl, stay g q (.bl _)⟩
  · exact q.elim
theorem c_dne (hK : X.K = K) (hu : X.A.units < cLine) : Cmp K X .NotEq (oDE true) := by
  subst hK
  refine ⟨mo_DE, fun pins s σ H x y v u Q I rx ry h => ?_⟩
  obtain ⟨G, a, b, g, hx, hy, q⟩ := h
  unfold oDE at q
  split at q
  · obtain ⟨p, rfl, r1⟩ := raw_of I g hx
    obtain ⟨p2, rfl, r2⟩ := raw_of I g hy
    cases rx
    cases ry
    rw [xor_t, ← emp_len] at q
    exact raw_ne r1 r2 hu ⟨.bl _, H, I, rfl, stay g q (.bl _)⟩
  · exact q.elim
/-! ### what is never come to -/
def mNever : MS := fun _ _ => False
theorem ss_never {n : Nat} {st : Stmt} : SS K n X st mNever := ⟨fun _ _ _ _ _ _ _ h => h, ps_weak ps_never fun T σ H ⟨_, _, _, _, q, _⟩ => q.elim⟩
end
end Dl

set_option Elab.async false
set_option linter.all false
set_option maxRecDepth 100000
set_option maxHeartbeats 4000000
namespace Dl
open PySem PySem.Spec PyProof.Rows L2 Br
section
variable {K : PySem.W.Frag} {X : Cx} {a b c : Expr} {ma mb mc : ME} {pos : Pos}
/-! ### {k: v} -/
def mDisp1 (ma mb : ME) : ME := fun ρ k => ma ρ fun da ρ1 => mb ρ1 fun db ρ2 => match keyOf da with
  | some q => k (.dict [(keyD q, db)]) ρ2
  | none => False
theorem se_disp1 (ha : SE K (fE K) X a ma) (hb : SE K (fE K) X b mb) : SE K (fF K) X (.Dict [some a] [b] pos) (mDisp1 ma mb) := by
  constructor
  · intro ρ k k' w
    refine ha.mono ρ _ _ fun da ρ1 => hb.mono ρ1 _ _ fun db ρ2 q => ?_
    split at q
    · exact w _ _ q
    · exact q.elim
  · refine pe_weak (pe_disp (pps_cons ha.pe hb.pe pps_nil) rfl rfl (by simp) (by simp)) fun σ H Q ⟨G, ρ, R, q⟩ p np => ?_
    have gp : G p = none := R.gh.free np
    have nw : ¬ Ow σ ρ p := fun w => R.old w np
    have R0 := R.poke (o := .dK []) gp nw
    have l0 : Lk 0 σ G H ρ σ G (upd H p (.dK [])) ρ := Lk.refl.poke np
    refine ⟨G, ρ, R0, ha.mono ρ _ _ (fun da ρ1 q x G1 H1 R1 l1 rx => ⟨G1, ρ1, R1, hb.mono ρ1 _ _ (fun db ρ2 q y G2 H2 R2 l2 ry => ?_) q⟩) q⟩
    have l12 := l1.trans l2
    have hp2 : H2 p = some (.dK []) := l12.st.hh p _ nw upd_same
    have gp2 : G2 p = none := l12.st.fr p _ nw upd_same gp rfl
    have nw2 : ¬ Ow σ ρ2 p := fun w => by
      rcases l12.sb p w with z | z
      · exact nw z
      · rw [upd_same] at z; cases z
    split at q
    · rename_i k e
      have ed := keyOf_inv e
      rw [ed] at rx
      have ex := key_val (H := H1) (.fro rx)
      subst ex
      refine ⟨hp2, [(k, y)], rfl, by simp, ?_⟩
      refine q _ G2 _ (R2.poke gp2 nw2) ((l0.trans l12).poke np) ⟨p, _, rfl, np, nw2, upd_same, gp2, ?_⟩
      exact .dK (ks := [k]) (xs := [y]) (ds := [db]) rfl (.cons ry .nil)
    · exact q.elim
/-! ### a < b < c -/
theorem t_chain {o o' : O2} {r r' : R2} (h : Op2 K (pE K) r o) (h' : Op2 K (pE K) r' o') (ha : SE K (fE K) X a ma) (hb : SE K (fE K) X b mb) (hc : SE K (fV K) X c mc) (σ : L2.St) (H : Hp) (Q : VK) (q : tE K (fE K) (mChain o o' ma mb mc) σ H Q) :
    tChain r r' (tE K (fE K) ma) (tE K (fE K) mb) (tE K (fV K) mc) σ H Q := by
  obtain ⟨G, ρ, R, q⟩ := q
  refine ⟨G, ρ, R, ha.mono ρ _ _ (fun da ρ1 q x G1 H1 R1 l1 rx => ⟨G1, ρ1, R1, hb.mono ρ1 _ _ (fun db ρ2 q y G2 H2 R2 l2 ry => ?_) q⟩) q⟩
  refine h.run G2 H2 x y da db _ R2.gh (vw_of rx l2) (.fro ry) (h.mono _ _ _ _ (fun d q v G3 H3 gh st pv => ?_) q)
  have R3 := R2.pure st gh
  have l3 := (l1.trans l2).trans (Lk.pure (n := 0) (ρ := ρ2) (σ := σ) st)
  rcases d with _ | (_ | _) | _ | _ | _ | _ | _ | _
  all_goals first | exact q.elim | skip
  · cases pv
    exact ⟨false, rfl, (by first | exact iteF (q _ G3 H3 R3 l3 (.bl false)) | exact q _ G3 H3 R3 l3 (.bl false))⟩
  · cases pv
    refine ⟨true, rfl, ?_⟩
    have go : (tE K (fV K) mc) σ H3 fun z H4 => r' y z H4 Q := by
      refine ⟨G3, ρ2, R3, hc.mono ρ2 _ _ (fun dc ρ3 q z G4 H4 R4 l4 rz => ?_) q⟩
      exact h'.run G4 H4 y z db dc _ R4.gh (.fro (rp_same l4.st.gg (rp_same st.gg ry))) rz (h'.mono _ _ _ _ (fun e q v G5 H5 gh5 st5 pv5 => q v G5 H5 (R4.pure st5 gh5) ((l3.trans l4).trans (.pure st5)) pv5) q)
    first | exact iteT go | exact go
theorem mo_chain {o o' : O2} (h : Mo2 o) (h' : Mo2 o') (ha : Mo ma) (hb : Mo mb) (hc : Mo mc) : Mo (mChain o o' ma mb mc) := fun ρ k k' w => ha ρ _ _ fun da ρ1 => hb ρ1 _ _ fun db ρ2 => h _ _ _ _ fun d q => by
  rcases d with _ | (_ | _) | _ | _ | _ | _ | _ | _
  all_goals first | exact q.elim | exact w _ _ q | exact hc ρ2 _ _ (fun dc ρ3 => h' _ _ _ _ fun e => w e ρ3) q
theorem se_chain {op op' : CmpOp} {o o' : O2} (h : Cmp K X op o) (h' : Cmp K X op' o') (ha : SE K (fE K) X a ma) (hb : SE K (fE K) X b mb) (hc : SE K (fV K) X c mc) (hm : lastMarks [op, op'] [b, c] = false := by with_unfolding_all rfl) : SE K (fE K) X (.Compare a [op, op'] [b, c] pos) (mChain o o' ma mb mc) :=
  ⟨mo_chain h.mo h'.mo ha.mono hb.mono hc.mono, pe_weak (pe_chain h.opr h'.opr ha.pe hb.pe hc.pe hm) (t_chain (op2_of h.mo) (op2_of h'.mo) ha hb hc)⟩
theorem st_chain {op op' : CmpOp} {o o' : O2} (h : Cmp K X op o) (h' : Cmp K X op' o') (ha : SE K (fE K) X a ma) (hb : SE K (fE K) X b mb) (hc : SE K (fV K) X c mc) (hm : lastMarks [op, op'] [b, c] = false := by with_unfolding_all rfl) : ST K X (.Compare a [op, op'] [b, c] pos) (mTest (mChain o o' ma mb mc)) := by
  have mo := mo_chain h.mo h'.mo ha.mono hb.mono hc.mono
  refine ⟨mo_test mo, pt_weak (pt_chain h.opr h'.opr ha.pe hb.pe hc.pe hm) fun σ H Q ⟨G, ρ, R, q⟩ => ?_⟩
  refine t_chain (op2_of h.mo) (op2_of h'.mo) ha hb hc σ H _ ⟨G, ρ, R, mo ρ _ _ (fun d ρ1 q v G1 H1 R1 l r => ?_) q⟩
  cases d with
  | bool b =>
    cases r
    exact ⟨b, rfl, q G1 H1 R1 l⟩
  | _ => exact q.elim
end
end Dl

set_option Elab.async false
set_option linter.all false
set_option maxRecDepth 100000
set_option maxHeartbeats 4000000
/-! The end of a law by data: its script is a cell of its own. -/
namespace Dl
open PySem PySem.Spec PyProof.Rows L2 Br
theorem rel_scr {K : PySem.W.Frag} {H : Hp} {a : Addr} {xs : List Int} (hS : SqL K H a (xs.map V.int)) : Rel K [some (.ref a)] H H [.fro (.scr xs)] := by
  refine ⟨Same.refl H, rfl, fun i d e => ?_, fun i d e => ?_, fun i j p d c e => ?_⟩
  · match i, e with
    | 0, e => cases e; exact ⟨_, rfl, .scr hS⟩
  · match i, e with
    | 0, e => cases e
  · match i, e with
    | 0, e => cases e
theorem dl_true {K : PySem.W.Frag} {G : Hp} {v : V} (r : Rp K G v (.bool true)) : v = .bl true := by cases r; rfl
theorem law_end {K : PySem.W.Frag} {H : Hp} {a : Addr} {xs : List Int} {F : Fs} (hS : SqL K H a (xs.map V.int)) (h : F [.fro (.scr xs)] fun d _ => ∀ (v : V) (G' : Hp), Rp K G' v d → v = .bl true) (mo : ∀ cs (k k' : D → List Cell → Prop), (∀ d cs', k d cs' → k' d cs') → F cs k → F cs k') : spD K 1 0 F [.ref a] H (fun v _ => v = .bl true) fun _ _ _ => False :=
  ⟨rfl, H, _, rel_scr hS, mo _ _ _ (fun d _ z v G' _ _ _ _ r => z v G' r) h⟩
end Dl

set_option Elab.async false
set_option linter.all false
set_option maxRecDepth 100000
set_option maxHeartbeats 4000000
/-! Dicts that are walked: such a dict is known as it lies while it is walked. -/
namespace Dl
open PySem PySem.Spec PyProof.Rows L2 Br
def isFrz : HO → Bool
  | .frz _ _ => true
  | _ => false
def isDic : HO → Bool
  | .dK _ => true
  | .dT _ => true
  | _ => false
/-- the same data, but that some dicts are known as they lie, or not any more -/
structure Sw (G G' : Hp) : Prop where
  rd : ∀ b u, isFrz u = false → Rd G b u → Rd G' b u
  tp : ∀ b xs, G b = some (.tup xs) → G' b = some (.tup xs)
  tz : ∀ b o xs, G b = some (.frz o (.tup xs)) → G' b = some (.frz o (.tup xs))
  xt : ∀ b φ, G b = some (.ext φ) → G' b = some (.ext φ)
section
variable {K : PySem.W.Frag} {G G' : Hp}
mutual
theorem rp_sw (e : Sw G G') : ∀ {v : V} {d : D}, Rp K G v d → Rp K G' v d
  | _, _, .non => .non
  | _, _, .bl b => .bl b
  | _, _, .int i => .int i
  | _, _, .str x => .str x
  | _, _, .lst s a => .lst (e.rd _ _ rfl s) (rps_sw e a)
  | _, _, .tup s a => .tup (e.tp _ _ s) (rps_sw e a)
  | _, _, .tupC s a => .tupC (s.imp (e.rd _ _ rfl) id) (rps_sw e a)
  | _, _, .tupZ s n a => .tupZ (e.tz _ _ _ s) n (rps_sw e a)
  | _, _, .scr s => .scr (s.imp (e.rd _ _ rfl) id)
  | _, _, .fn e => .fn e
  | _, _, .exn c s => .exn c (e.xt _ _ s)
  | _, _, .exf c s t l a => .exf c (e.xt _ _ s) (e.xt _ _ t) l (rps_sw e a)
  | _, _, .dK s l a => .dK (e.rd _ _ rfl s) l (rps_sw e a)
  | _, _, .dT s l a => .dT (e.rd _ _ rfl s) l (rps_sw e a)
theorem rps_sw (e : Sw G G') : ∀ {vs : List V} {ds : List D}, RpAll K G vs ds → RpAll K G' vs ds
  | _, _, .nil => .nil
  | _, _, .cons x r => .cons (rp_sw e x) (rps_sw e r)
end
theorem ob_sw (e : Sw G G') {o : HO} {d : D} (h : ObR K G o d) : ObR K G' o d := by
  cases h with
  | lst a => exact .lst (rps_sw e a)
  | dK l a => exact .dK l (rps_sw e a)
  | dT l a => exact .dT l (rps_sw e a)
theorem sw_lock {a : Addr} {u : HO} {od : Obj} (h : G a = some u) (hd : isDic u = true) : Sw G (upd G a (.frz od u)) := by
  refine ⟨fun b u' _ r => ?_, fun b xs e => ?_, fun b o xs e => ?_, fun b φ e => ?_⟩
  · by_cases z : b = a
    · subst z
      rcases r with r | ⟨o, r⟩
      · rw [h] at r; cases r; exact .inr ⟨od, upd_same⟩
      · rw [h] at r; cases r; cases hd
    · exact r.imp (fun q => (upd_ne z).trans q) fun ⟨o, q⟩ => ⟨o, (upd_ne z).trans q⟩
  · by_cases z : b = a
    · subst z; rw [h] at e; cases e; cases hd
    · exact (upd_ne z).trans e
  · by_cases z : b = a
    · subst z; rw [h] at e; cases e; cases hd
    · exact (upd_ne z).trans e
  · by_cases z : b = a
    · subst z; rw [h] at e; cases e; cases hd
    · exact (upd_ne z).trans e
theorem sw_unlock {a : Addr} {u : HO} {od : Obj} (h : G a = some (.frz od u)) (hd : isDic u = true) : Sw G (upd G a u) := by
  refine ⟨fun b u' hf r => ?_, fun b xs e => ?_, fun b o xs e => ?_, fun b φ e => ?_⟩
  · by_cases z : b = a
    · subst z
      rcases r with r | ⟨o, r⟩
      · rw [h] at r; cases r; cases hf
      · rw [h] at r; cases r; exact .inl upd_same
    · exact r.imp (fun q => (upd_ne z).trans q) fun ⟨o, q⟩ => ⟨o, (upd_ne z).trans q⟩
  · by_cases z : b = a
    · subst z; rw [h] at e; cases e
    · exact (upd_ne z).trans e
  · by_cases z : b = a
    · subst z; rw [h] at e; cases e; cases hd
    · exact (upd_ne z).trans e
  · by_cases z : b = a
    · subst z; rw [h] at e; cases e
    · exact (upd_ne z).trans e
theorem Rel.swap {σ : L2.St} {H : Hp} {ρ : Cs} {a : Addr} {u u' : HO} (R : Rel K σ G H ρ) (h : G a = some u) (sw : Sw G (upd G a u')) : Rel K σ (upd G a u') (upd H a u') ρ := by
  refine ⟨fun b o e => ?_, R.len, fun i d e => ?_, fun i d e => ?_, R.apart⟩
  · by_cases z : b = a
    · subst z; rw [upd_same] at e ⊢; exact e
    · rw [upd_ne z] at e ⊢; exact R.gh b o e
  · obtain ⟨v, hv, r⟩ := R.fro i d e
    exact ⟨v, hv, rp_sw sw r⟩
  · obtain ⟨p, o, hv, hp, gp, ob⟩ := R.own i d e
    have ne : p ≠ a := fun z => by subst z; rw [h] at gp; cases gp
    exact ⟨p, o, hv, (upd_ne ne).trans hp, (upd_ne ne).trans gp, ob_sw sw ob⟩
theorem Lk.swap {n : Nat} {σ σ' : L2.St} {H G1 H1 : Hp} {ρ ρ' : Cs} {a : Addr} {u w : HO} (l : Lk n σ (upd G a w) (upd H a w) ρ σ' G1 H1 ρ') (hG : G a = some u) (hH : H a = some u) : Lk n σ G H ρ σ' (upd G1 a u) (upd H1 a u) ρ' := by
  refine ⟨⟨fun b o e => ?_, fun b o n e => ?_, fun b o n e g t => ?_, fun b e => ?_⟩, fun p x => ?_, l.pn⟩
  · by_cases z : b = a
    · subst z; rw [hG] at e; cases e; exact upd_same
    · rw [upd_ne z]; exact l.st.gg b o ((upd_ne z).trans e)
  · by_cases z : b = a
    · subst z; rw [hH] at e; cases e; exact upd_same
    · rw [upd_ne z]; exact l.st.hh b o n ((upd_ne z).trans e)
  · have z : b ≠ a := fun z => by subst z; rw [hG] at g; cases g
    rw [upd_ne z]
    exact l.st.fr b o n ((upd_ne z).trans e) ((upd_ne z).trans g) t
  · by_cases z : b = a
    · subst z; rw [upd_same] at e; cases e
    · rw [upd_ne z] at e
      have := l.st.dom b e
      rw [upd_ne z] at this
      exact this
  · rcases l.sb p x with y | y
    · exact .inl y
    · by_cases z : p = a
      · subst z; rw [upd_same] at y; cases y
      · rw [upd_ne z] at y; exact .inr y
end
section
variable {K : PySem.W.Frag} {X : Cx}
/-- an object is known as it lies while an expression is worth something -/
theorem pe_locked {e : Expr} {t : TE} (h : PE X e t) : PE X e (fun σ H Q => ∃ a u, H a = some u ∧ Mut (some u) ∧ ∀ od, t σ (upd H a (.frz od u)) fun v H1 => H1 a = some (.frz od u) ∧ Q v (upd H1 a u)) := by
  refine ⟨fun pins s σ H Q I ⟨a, u, ha, mu, q⟩ => ?_⟩
  obtain ⟨od, I2⟩ := I.lock ha mu
  have nf := I.nofrz ha mu
  refine thn (h.run pins s σ _ _ I2 (q od)) fun v s1 ⟨x, H1, I1, rx, e1, q1⟩ => ?_
  exact ⟨x, _, I1.unlock e1 nf, rx, q1⟩
theorem pe_or {e : Expr} {t t' : TE} (h : PE X e t) (h' : PE X e t') : PE X e (fun σ H Q => t σ H Q ∨ t' σ H Q) :=
  ⟨fun pins s σ H Q I q => q.elim (h.run pins s σ H Q I) (h'.run pins s σ H Q I)⟩
def dlen : HO → Nat
  | .dK kvs => kvs.length
  | .dT kvs => kvs.length
  | _ => 0
theorem pe_sized {e : Expr} {t : TE} (h : PE X e t) : PE X e (fun σ H Q => ∃ a u, Rd H a u ∧ isDic u = true ∧ (dlen u ≤ sizeLine → t σ H Q)) := by
  refine ⟨fun pins s σ H Q I ⟨a, u, rd, hd, q⟩ => h.run pins s σ H Q I (q ?_)⟩
  unfold isDic at hd
  split at hd
  · exact (dk_rd I.hok rd).1
  · exact (dt_rd I.hok rd).1
  · cases hd
def mLk (i : Nat) (m : ME) : ME := fun ρ k => match ρ[i]? with
  | some (.fro (.dict _)) => m ρ k
  | _ => False
def tEL (K : PySem.W.Frag) (i : Nat) (m : ME) : TE := fun σ H Q => ∃ G ρ, Rel K σ G H ρ ∧ (∃ a o u, σ[i]? = some (some (.ref a)) ∧ G a = some (.frz o u) ∧ isDic u = true ∧ dlen u ≤ sizeLine) ∧ m ρ fun d ρ' => ∀ v G' H', Rel K σ G' H' ρ' → Lk 0 σ G H ρ σ G' H' ρ' → fF K H σ ρ' G' H' v d → Q v H'
theorem rp_dic {G : Hp} {v : V} {ps : List (D × D)} (r : Rp K G v (.dict ps)) : ∃ a u, v = .ref a ∧ Rd G a u ∧ isDic u = true := by
  cases r with
  | dK s l a => exact ⟨_, _, rfl, s, rfl⟩
  | dT s l a => exact ⟨_, _, rfl, s, rfl⟩
theorem mut_dic {u : HO} (h : isDic u = true) : Mut (some u) := by
  unfold isDic at h
  split at h
  · exact True.intro
  · exact True.intro
  · cases h
theorem se_locked {e : Expr} {i : Nat} {m : ME} (mo : Mo m) (h : PE X e (tEL K i m)) : SE K (fF K) X e (mLk i m) := by
  refine ⟨fun ρ k k' w => ?_, pe_weak (pe_sized (pe_or h (pe_locked h))) fun σ H Q ⟨G, ρ, R, q⟩ => ?_⟩
  · unfold mLk
    split
    · exact mo ρ k k' w
    · exact id
  · unfold mLk at q
    split at q
    · rename_i ps ei
      obtain ⟨v, hv, r⟩ := R.fro i _ ei
      obtain ⟨a, u, rfl, rd, hd⟩ := rp_dic r
      refine ⟨a, u, rd_same R.gh rd, hd, fun hz => ?_⟩
      rcases rd with rd | ⟨o, rd⟩
      · refine .inr ⟨a, u, R.gh a u rd, mut_dic hd, fun od => ?_⟩
        have sw := sw_lock (od := od) rd hd
        refine ⟨_, ρ, R.swap rd sw, ⟨a, od, u, hv, upd_same, hd, hz⟩, mo ρ _ _ (fun d ρ' q v' G1 H1 R1 l1 f1 => ?_) q⟩
        have g1 : G1 a = some (.frz od u) := l1.st.gg a _ upd_same
        have l0 := l1.swap rd (R.gh a u rd)
        refine ⟨R1.gh a _ g1, q v' _ _ (R1.swap g1 (sw_unlock g1 hd)) l0 ?_⟩
        obtain ⟨p, ob, rfl, h0, nw, hp, gp, oo⟩ := f1
        have ne : p ≠ a := fun z => by subst z; rw [upd_same] at h0; cases h0
        rw [upd_ne ne] at h0
        exact ⟨p, ob, rfl, h0, nw, (upd_ne ne).trans hp, (upd_ne ne).trans gp, ob_sw (sw_unlock g1 hd) oo⟩
      · exact .inl ⟨G, ρ, R, ⟨a, o, u, hv, rd, hd, hz⟩, q⟩
    · exact q.elim
/-- the keys of a dict that is known as it lies -/
theorem wk_keys {G : Hp} {a : Addr} {o : Obj} {ks : List Key} {xs : List V} (hl : ks.length = xs.length) (h : G a = some (.frz o (.dK (ks.zip xs)))) : Wk K (Itk a o (ks.zip xs)) G (ks.map keyD) := by
  intro G' H' g gh
  have W := walk_keys (d := a) (o := o) (kvs := ks.zip xs)
  have hh : H' a = some (.frz o (.dK (ks.zip xs))) := gh _ _ (g _ _ h)
  have ln : (ks.map keyD).length = (ks.zip xs).length := by simp [hl]
  refine ⟨fun i hi => W.goes i H' (by omega) hh, ln ▸ W.stops H' hh, fun i x H3 hi y => ?_⟩
  obtain ⟨rfl, k, v, hx, rfl⟩ := W.yields i H' x H3 (by omega) hh y
  refine ⟨G', keyD k, gh, .refl, ?_, ?_⟩
  · rw [List.getElem?_map]
    have : (ks.zip xs)[i]?.map Prod.fst = some k := by rw [hx]; rfl
    rw [← List.getElem?_map, List.map_fst_zip (by omega)] at this
    rw [this]; rfl
  · cases k with
    | inl n => exact .int n
    | inr x => exact .str x
theorem wk_keysT {G : Hp} {a : Addr} {o : Obj} {ks : List (List Key)} {xs : List V} (hl : ks.length = xs.length) (h : G a = some (.frz o (.dT (ks.zip xs)))) : Wk K (Itkt a o (ks.zip xs)) G (ks.map fun k => .tuple .mad (k.map keyD)) := by
  intro G' H' g gh
  have W := walk_keysT (d := a) (o := o) (kvs := ks.zip xs)
  have hh : H' a = some (.frz o (.dT (ks.zip xs))) := gh _ _ (g _ _ h)
  have ln : (ks.map fun k => D.tuple .mad (k.map keyD)).length = (ks.zip xs).length := by simp [hl]
  refine ⟨fun i hi => W.goes i H' (by omega) hh, ln ▸ W.stops H' hh, fun i x H3 hi y => ?_⟩
  obtain ⟨rfl, k, v, p, hx, rfl, hp⟩ := W.yields i H' x H3 (by omega) hh y
  have rk : ∀ {G : Hp} (k : List Key), RpAll K G (k.map kV) (k.map keyD) := fun {G} k => by
    induction k with
    | nil => exact .nil
    | cons q r ih => exact .cons (by cases q with | inl n => exact .int n | inr x => exact .str x) ih
  have gx : (ks.map fun k => D.tuple .mad (k.map keyD))[i]? = some (.tuple .mad (k.map keyD)) := by
    rw [List.getElem?_map]
    have : (ks.zip xs)[i]?.map Prod.fst = some k := by rw [hx]; rfl
    rw [← List.getElem?_map, List.map_fst_zip (by omega)] at this
    rw [this]; rfl
  cases gp : G' p with
  | some u =>
    have := gh _ _ gp
    rw [hp] at this
    cases this
    exact ⟨G', _, gh, .refl, gx, .tup gp (rk k)⟩
  | none =>
    refine ⟨upd G' p (.tup (k.map kV)), _, same_put gh hp, ⟨same_upd gp, fun _ _ _ e => e, fun b u _ e g t => ?_, fun _ e => e⟩, gx, .tup upd_same (rk k)⟩
    by_cases z : b = p
    · subst z; rw [hp] at e; cases e; cases t
    · rw [upd_ne z]; exact g
theorem rp_key {G : Hp} {v : V} {d : D} {k : Key} (h : keyOf d = some k) (r : Rp K G v d) : v = kV k := by
  have := keyOf_inv h
  subst this
  cases k with
  | inl n => cases r; rfl
  | inr x => cases r; rfl
def mDcL (mg : MG) (mt : MT) (mk me : ME) (vs : List Nat) (k : List (D × D) → Cs → Prop) : List D → List (D × D) → Cs → Prop
  | [], acc, ρ => k acc ρ
  | x :: r, acc, ρ => mg x ρ fun ρ1 => mt ρ1 fun b ρ2 => if b = true then mk ρ2 fun dk ρ3 => me ρ3 fun d ρ4 => match keyOf dk with
      | some q => mDcL mg mt mk me vs k r (putKs acc (.inl q) dk d) (wipeC ρ4 vs)
      | none => False
    else mDcL mg mt mk me vs k r acc (wipeC ρ2 vs)
def mKeys (i : Nat) : MI := fun ρ k => match ρ[i]? with
  | some (.fro (.dict ps)) => k (ps.map (·.1)) ρ
  | _ => False
def mDc (wi : MI) (mg : MG) (mt : MT) (mk me : ME) (vs : List Nat) : ME := fun ρ k => wi ρ fun xs ρ1 => mDcL mg mt mk me vs (fun ds ρ2 => k (.dict ds) ρ2) xs [] (wipeC ρ1 vs)
theorem mo_dcL {mg : MG} {mt : MT} {mk me : ME} {vs : List Nat} (hg : ∀ d ρ (k k' : Cs → Prop), (∀ ρ', k ρ' → k' ρ') → mg d ρ k → mg d ρ k') (ht : Mo mt) (hk : Mo mk) (he : Mo me) {k k' : List (D × D) → Cs → Prop} (w : ∀ d ρ', k d ρ' → k' d ρ') : ∀ (xs : List D) (acc : List (D × D)) (ρ : Cs), mDcL mg mt mk me vs k xs acc ρ → mDcL mg mt mk me vs k' xs acc ρ
  | [], acc, ρ, h => w _ _ h
  | x :: r, acc, ρ, h => hg _ _ _ _ (fun ρ1 => ht ρ1 _ _ fun b ρ2 q => by
    cases b
    · exact mo_dcL hg ht hk he w r acc _ q
    · refine hk ρ2 _ _ (fun dk ρ3 => he ρ3 _ _ fun d ρ4 q => ?_) q
      revert q
      cases keyOf dk with
      | none => exact id
      | some z => exact mo_dcL hg ht hk he w r _ _) h
theorem len_putKs {ps : List (D × D)} {k : Key ⊕ List Key} {a v : D} : (putKs ps k a v).length ≤ ps.length + 1 := by
  unfold putKs
  split <;> simp
theorem ob_len {G : Hp} {kvs : List (Key × V)} {acc : List (D × D)} (h : ObR K G (.dK kvs) (.dict acc)) : kvs.length = acc.length := by
  cases h with
  | dK l a => have := rps_len a; simp; omega
theorem ob_put {G : Hp} {kvs : List (Key × V)} {acc : List (D × D)} {k : Key} {v : V} {d : D} (h : ObR K G (.dK kvs) (.dict acc)) (r : Rp K G v d) : ObR K G (.dK (putK kvs k v)) (.dict (putKs acc (.inl k) (keyD k) d)) := by
  cases h with
  | dK l a => exact put_K l a r
theorem dc_run {J : It} {g : TG} {mg : MG} {mt : MT} {mk me : ME} {vs ts : List Nat} (sg : SG K 0 ts g mg) (hts : ∀ t ∈ ts, t ∈ vs) (ht : Mo mt) (hk : Mo mk) (he : Mo me) {σ : L2.St} {G H : Hp} {ρ : Cs} {xs : List D} {Q : VK} (R : Rel K σ G H ρ) (wk : Wk K J G xs) (hsz : xs.length ≤ sizeLine)
    (q : mDcL mg mt mk me vs (fun ds ρ2 => ∀ v G' H', Rel K σ G' H' ρ2 → Lk 0 σ G H ρ σ G' H' ρ2 → fF K H σ ρ2 G' H' v (.dict ds) → Q v H') xs [] (wipeC ρ vs)) (L : Addr) (hL : H L = none) :
    ∃ W : Nat → Nat → Hp → Prop, (∃ m, W 0 m (upd H L (.dK []))) ∧ ∀ i m H, W i m H → (J.stop i H ∧ Q (.ref L) H) ∨ (J.go i H ∧ ∃ Nx : Hp → Prop, (∀ H', Nx H' → ∃ m', m' < m ∧ W (i + 1) m' H') ∧ ∀ x H', J.yld i H x H' → g x (wipe σ vs) H' fun σ2 H2 => wipe σ2 vs = wipe σ vs ∧ tT K mt σ2 H2 fun b H3 =>
      if b = true then tE K (fE K) mk σ2 H3 fun y H4 => tE K (fE K) me σ2 H4 fun z H5 => ∃ kvs k, y = kV k ∧ H5 L = some (.dK kvs) ∧ kvs.length < sizeLine ∧ Nx (upd H5 L (.dK (putK kvs k z))) else Nx H3) := by
  have nG : G L = none := R.gh.free hL
  have nw : ¬ Ow (wipe σ vs) (wipeC ρ vs) L := fun w => (R.wipe vs).old w hL
  have l1 : Lk 0 σ G H ρ σ G H ρ := .refl
  refine ⟨fun i k H' => k = xs.length - i ∧ i ≤ xs.length ∧ ∃ G' ρ' acc kvs, Rel K (wipe σ vs) G' H' (wipeC ρ' vs) ∧ Same G G' ∧ Lk 0 σ G H ρ (wipe σ vs) G' H' (wipeC ρ' vs) ∧ H' L = some (.dK kvs) ∧ G' L = none ∧ ¬ Ow (wipe σ vs) (wipeC ρ' vs) L ∧ ObR K G' (.dK kvs) (.dict acc) ∧ acc.length ≤ i ∧
    mDcL mg mt mk me vs (fun ds ρ2 => ∀ v G' H', Rel K σ G' H' ρ2 → Lk 0 σ G H ρ σ G' H' ρ2 → fF K H σ ρ2 G' H' v (.dict ds) → Q v H') (xs.drop i) acc (wipeC ρ' vs),
    ⟨_, rfl, Nat.zero_le _, G, ρ, [], [], (R.wipe vs).poke nG nw, .refl _, (l1.wipe vs).poke hL, upd_same, nG, nw, (ObR.dK (ks := []) (xs := []) (ds := []) rfl .nil), Nat.zero_le _, q⟩, ?_⟩
  rintro i k H2 ⟨rfl, hle, G2, ρ2, acc, kvs, R2, g2, l2, hL2, nG2, nw2, ra, hacc, q2⟩
  obtain ⟨w1, w2, w3⟩ := wk G2 H2 g2 R2.gh
  by_cases hlt : i < xs.length
  · refine .inr ⟨w1 i hlt, fun H' => ∃ G' ρ' acc kvs, Rel K (wipe σ vs) G' H' (wipeC ρ' vs) ∧ Same G G' ∧ Lk 0 σ G H ρ (wipe σ vs) G' H' (wipeC ρ' vs) ∧ H' L = some (.dK kvs) ∧ G' L = none ∧ ¬ Ow (wipe σ vs) (wipeC ρ' vs) L ∧ ObR K G' (.dK kvs) (.dict acc) ∧ acc.length ≤ i + 1 ∧
      mDcL mg mt mk me vs (fun ds ρ2 => ∀ v G' H', Rel K σ G' H' ρ2 → Lk 0 σ G H ρ σ G' H' ρ2 → fF K H σ ρ2 G' H' v (.dict ds) → Q v H') (xs.drop (i + 1)) acc (wipeC ρ' vs), fun H' z => ⟨xs.length - (i + 1), by omega, rfl, hlt, z⟩, fun x H3 y => ?_⟩
    obtain ⟨G3, dx, gh3, st3, hx, rx⟩ := w3 i x H3 hlt y
    have R3 := R2.pure st3 gh3
    have l3 := l2.trans (Lk.pure (n := 0) (ρ := wipeC ρ2 vs) (σ := wipe σ vs) st3)
    have hL3 : H3 L = some (.dK kvs) := st3.hh L _ (fun z => z) hL2
    have nG3 : G3 L = none := st3.fr L _ (fun z => z) hL2 nG2 rfl
    have e : xs.drop i = dx :: xs.drop (i + 1) := by
      rw [List.drop_eq_getElem_cons hlt]
      rw [List.getElem?_eq_getElem hlt] at hx
      rw [Option.some.inj hx]
    rw [e] at q2
    refine sg.run (wipe σ vs) G3 H3 (wipeC ρ2 vs) x dx _ R3 rx (sg.mono _ _ _ _ (fun ρ4 q4 σ4 R4 l4 c4 => ?_) q2)
    have ew : wipe σ4 vs = wipe σ vs := (c4.wipe hts).trans wipe_wipe
    refine ⟨ew, G3, ρ4, R4, ht ρ4 _ _ (fun b ρ5 q5 G5 H5 R5 l5 => ?_) q4⟩
    have own4 : ¬ Ow σ4 ρ4 L := fun w => by
      rcases l4.sb L w with z | z
      · exact nw2 z
      · rw [hL3] at z; cases z
    have hL5 : H5 L = some (.dK kvs) := l5.st.hh L _ own4 hL3
    have nG5 : G5 L = none := l5.st.fr L _ own4 hL3 nG3 rfl
    have l05 := l3.trans (l4.trans l5)
    cases b
    · have z : Lk 0 (wipe σ vs) G3 H3 (wipeC ρ2 vs) (wipe σ4 vs) G5 H5 (wipeC ρ5 vs) := (l4.trans l5).wipe vs
      have RR := R5.wipe vs
      have LL := l05.wipe vs
      rw [ew] at RR LL z
      refine ⟨G5, ρ5, acc, kvs, RR, (g2.trans st3.gg).trans l5.st.gg, LL, hL5, nG5, fun w => ?_, ob_same (st3.gg.trans l5.st.gg) ra, by omega, q5⟩
      rcases z.sb L w with z | z
      · exact nw2 z
      · rw [hL3] at z; cases z
    · refine ⟨G5, ρ5, R5, hk ρ5 _ _ (fun dk ρ6 q6 y G6 H6 R6 l6 ry => ⟨G6, ρ6, R6, he ρ6 _ _ (fun d ρ7 q7 v G7 H7 R7 l7 rv => ?_) q6⟩) q5⟩
      have own5 : ¬ Ow σ4 ρ5 L := fun w => by
        rcases l5.sb L w with z | z
        · exact own4 z
        · rw [hL3] at z; cases z
      have l67 := l6.trans l7
      have hL7 : H7 L = some (.dK kvs) := l67.st.hh L _ own5 hL5
      have nG7 : G7 L = none := l67.st.fr L _ own5 hL5 nG5 rfl
      revert q7
      cases ek : keyOf dk with
      | none => exact fun z => z.elim
      | some kk =>
        intro q7
        have la := ob_len ra
        refine ⟨kvs, kk, rp_key ek ry, hL7, by omega, ?_⟩
        have z : Lk 0 (wipe σ vs) G3 H3 (wipeC ρ2 vs) (wipe σ4 vs) G7 H7 (wipeC ρ7 vs) := ((l4.trans l5).trans l67).wipe vs
        have RR := R7.wipe vs
        have LL := (l05.trans l67).wipe vs
        rw [ew] at RR LL z
        have nw7 : ¬ Ow (wipe σ vs) (wipeC ρ7 vs) L := fun w => by
          rcases z.sb L w with z | z
          · exact nw2 z
          · rw [hL3] at z; cases z
        have lp := len_putKs (ps := acc) (k := .inl kk) (a := dk) (v := d)
        have ob := ob_put (k := kk) (ob_same ((st3.gg.trans l5.st.gg).trans l67.st.gg) ra) rv
        rw [← keyOf_inv ek] at ob
        exact ⟨G7, ρ7, _, _, RR.poke nG7 nw7, ((g2.trans st3.gg).trans l5.st.gg).trans l67.st.gg, LL.poke hL, upd_same, nG7, nw7, ob, by omega, q7⟩
  · have e : i = xs.length := by omega
    subst e
    rw [List.drop_length] at q2
    obtain ⟨Rf, of⟩ := R2.unwipe
    exact .inl ⟨w2, q2 _ G2 H2 Rf ⟨l2.st, fun p w => l2.sb p (of p w), fun _ h => absurd h (Nat.not_lt_zero _)⟩ ⟨L, _, rfl, hL, fun w => nw2 (of L w), hL2, nG2, ra⟩⟩
theorem t_dc {g : TG} {mg : MG} {mt : MT} {mk me : ME} {vs ts : List Nat} {i : Nat} (sg : SG K 0 ts g mg) (hts : ∀ t ∈ ts, t ∈ vs) (ht : Mo mt) (hk : Mo mk) (he : Mo me) (σ : L2.St) (H : Hp) (Q : VK) (h : tEL K i (mDc (mKeys i) mg mt mk me vs) σ H Q) :
    tDc (iKeys (tVar i)) g (tT K mt) (tE K (fE K) mk) (tE K (fE K) me) vs σ H Q := by
  obtain ⟨G, ρ, R, ⟨a, o, u, hv, ga, hd, hz⟩, h⟩ := h
  unfold mDc mKeys at h
  split at h
  · rename_i ps ei
    obtain ⟨v, hv', r⟩ := R.fro i _ ei
    rw [hv] at hv'
    cases hv'
    refine ⟨_, hv, a, o, rfl, ?_⟩
    cases r with
    | @dK _ ks xs ds s l ra =>
      have e : u = .dK (ks.zip xs) := by
        rcases s with s | ⟨o', s⟩
        · rw [ga] at s; cases s
        · rw [ga] at s; cases s; rfl
      subst e
      have ln := rps_len ra
      rw [List.map_fst_zip (by simp; omega)] at h
      have hz' : (ks.zip xs).length ≤ sizeLine := hz
      exact .inl ⟨_, R.gh _ _ ga, dc_run sg hts ht hk he R (wk_keys l ga) (by simp at hz' ⊢; omega) h⟩
    | @dT _ ks xs ds s l ra =>
      have e : u = .dT (ks.zip xs) := by
        rcases s with s | ⟨o', s⟩
        · rw [ga] at s; cases s
        · rw [ga] at s; cases s; rfl
      subst e
      have ln := rps_len ra
      rw [List.map_fst_zip (by simp; omega)] at h
      have hz' : (ks.zip xs).length ≤ sizeLine := hz
      exact .inr ⟨_, R.gh _ _ ga, dc_run sg hts ht hk he R (wk_keysT l ga) (by simp at hz' ⊢; omega) h⟩
  · exact h.elim
/-- {k: v for x in d if ..}, d a name -/
theorem se_dc {kx vx tg e : Expr} {ifs : List Expr} {scope : Scope} {own : List (Str × Nat)} {pos : Pos} {i : Nat} {g : TG} {mg : MG} {mt : MT} {mk me : ME} {ts : List Nat} (hc : X.calm = true) (hN : X.N.Nodup) (hi : PE X e (tVar i)) (ok : BlkOk X.N X.env.scope scope own)
    (hg : ∀ (s : Shared) (H : Hp) (C : Addr) (cl : List (Str × Addr)) (fp : List Addr), PG (X.blk s H scope (compEnvC scope cl C X.env) fp) tg g) (sg : SG K 0 ts g mg) (hts : ∀ t ∈ ts, t ∈ own.map (·.2))
    (ht : ∀ (s : Shared) (H : Hp) (C : Addr) (cl : List (Str × Addr)) (fp : List Addr), STs K (X.blk s H scope (compEnvC scope cl C X.env) fp) ifs mt)
    (hk : ∀ (s : Shared) (H : Hp) (C : Addr) (cl : List (Str × Addr)) (fp : List Addr), SE K (fE K) (X.blk s H scope (compEnvC scope cl C X.env) fp) kx mk)
    (he : ∀ (s : Shared) (H : Hp) (C : Addr) (cl : List (Str × Addr)) (fp : List Addr), SE K (fE K) (X.blk s H scope (compEnvC scope cl C X.env) fp) vx me) (hs : ∀ x, foldedSetIterable e X.env x = pure x := by intro _; rfl) :
    SE K (fF K) X (.DictComp kx vx [⟨tg, e, ifs, 0⟩] scope pos) (mLk i (mDc (mKeys i) mg mt mk me (own.map (·.2)))) := by
  have mt' := (ht X.s_0 X.H_0 0 [] []).mono
  have mk' := (hk X.s_0 X.H_0 0 [] []).mono
  have me' := (he X.s_0 X.H_0 0 [] []).mono
  refine se_locked (fun ρ k k' w => ?_) (pe_weak (pe_dc hc hN (pi_keys hi) ok hg (fun s H C cl fp => (ht s H C cl fp).pts) (fun s H C cl fp => (hk s H C cl fp).pe) (fun s H C cl fp => (he s H C cl fp).pe) hs) (t_dc sg hts mt' mk' me'))
  unfold mDc mKeys
  split
  · exact fun q => mo_dcL sg.mono mt' mk' me' (fun ds ρ2 => w _ ρ2) _ [] _ q
  · exact id
end
end Dl

set_option Elab.async false
set_option linter.all false
set_option maxRecDepth 100000
set_option maxHeartbeats 4000000
/-! Calls by names in any order; two dicts of ints and texts that are equal. -/
namespace Dl
open PySem PySem.Spec PyProof.Rows L2 Br
/-- the values in another order -/
def perm {α : Type} (is : List Nat) (xs : List α) : List α := is.filterMap (xs[·]?)
theorem vals_get {vs : List V} {us : List Value} {i : Nat} (r : Vals vs us) : (vs[i]? = none ∧ us[i]? = none) ∨ ∃ v u, vs[i]? = some v ∧ us[i]? = some u ∧ RelV v u := by
  cases h : vs[i]? with
  | some v =>
    obtain ⟨u, h1, h2⟩ := r.get h
    exact .inr ⟨v, u, rfl, h1, h2⟩
  | none =>
    refine .inl ⟨rfl, ?_⟩
    rw [List.getElem?_eq_none_iff] at h ⊢
    rw [← r.length]; exact h
theorem vals_perm {vs : List V} {us : List Value} (r : Vals vs us) : ∀ is : List Nat, Vals (perm is vs) (perm is us)
  | [] => .nil
  | i :: is => by
    have ih := vals_perm r is
    unfold perm at ih ⊢
    rcases vals_get (i := i) r with ⟨h1, h2⟩ | ⟨v, u, h1, h2, h3⟩
    · rw [List.filterMap_cons_none h1, List.filterMap_cons_none h2]; exact ih
    · rw [List.filterMap_cons_some h1, List.filterMap_cons_some h2]; exact .cons h3 ih
theorem rps_perm {K : PySem.W.Frag} {G : Hp} {vs : List V} {ds : List D} (r : RpAll K G vs ds) : ∀ is : List Nat, RpAll K G (perm is vs) (perm is ds)
  | [] => .nil
  | i :: is => by
    have ih := rps_perm r is
    unfold perm at ih ⊢
    cases h : vs[i]? with
    | some v =>
      obtain ⟨d, h1, h2⟩ := rps_get r h
      rw [List.filterMap_cons_some h, List.filterMap_cons_some h1]; exact .cons h2 ih
    | none =>
      have h1 : ds[i]? = none := by
        rw [List.getElem?_eq_none_iff] at h ⊢
        rw [← rps_len r]; exact h
      rw [List.filterMap_cons_none h, List.filterMap_cons_none h1]; exact ih
structure SK (K : PySem.W.Frag) (X : Cx) (kws : List Keyword) (m : MA) : Prop where
  mono : Mo m
  pk : PK X kws (tA K m)
section
variable {K : PySem.W.Frag} {X : Cx}
theorem pk_weak {kws : List Keyword} {t t' : TA} (h : PK X kws t) (w : ∀ σ H Q, t' σ H Q → t σ H Q) : PK X kws t' := ⟨fun pos pins s σ H Q I q => h.run pos pins s σ H Q I (w σ H Q q)⟩
theorem sk_nil : SK K X [] aNil := ⟨fun ρ k k' w => w _ _, pk_weak pk_nil fun σ H Q ⟨G, ρ, R, q⟩ => q [] G H R .refl .nil⟩
theorem sk_cons {e : Expr} {kws : List Keyword} {ma : ME} {mr : MA} {nm : Option Str} {kpos : Pos} (h : SE K (fE K) X e ma) (g : SK K X kws mr) : SK K X (⟨nm, e, kpos⟩ :: kws) (aCons ma mr) :=
  ⟨mo_cons h.mono g.mono, pk_weak (pk_cons h.pe g.pk) (t_cons h.mono g.mono)⟩
def mCallK (F : Fs) (is : List Nat) (ma : MA) : ME := fun ρ k => ma ρ fun ds ρ1 => ds.length = is.length ∧ F ((perm is ds).map .fro) fun d _ => k d ρ1
/-- f(k = e, ..), the names in any order -/
theorem se_callK {F : Fs} {k j : Nat} {f : Addr} {fd : FuncData} {ps ks : List Str} {is : List Nat} {x : Str} {p pos : Pos} {kws : List Keyword} {ma : MA} (Fn : FnD X.prog X.w K X.mg X.base j f fd ps 0 F) (hK : X.K = K) (hG : Bare X.A) (hr : Room k X.A) (hj : j ≤ k) (hg : Gl X x) (hm : X.mg x = some (.ref f)) (hk : PySem.W.keepIn K (.ref f) = true)
    (hb : ∀ (s : Shared) (ws : List Value), ws.length = ps.length → BindsTo s fd ⟨[], ks.zip ws⟩ (ps.zip (perm is ws))) (hil : is.length = ps.length) (hkw : SK K X kws ma) (hall : (backToKw pos (keywordEach kws X.env)).all (·.1.isSome) = true := by rfl) (hks : (backToKw pos (keywordEach kws X.env)).filterMap (·.1) = ks := by rfl)
    (hdb : (x == ("__debug__" : Str)) = false := by decide) (hpl : ((backTo pos (starEach [] X.env)).any (·.1) || (backToKw pos (keywordEach kws X.env)).any (·.1.isNone)) = false := by rfl) :
    SE K (fE K) X (.Call (.Name x p) [] kws pos) (mCallK F is ma) := by
  subst hK
  refine ⟨fun ρ k k' w => hkw.mono ρ _ _ fun ds ρ1 q => ⟨q.1, Fn.mo _ _ _ (fun d _ => w _ _) q.2⟩, ⟨fun pins s σ H Q I ⟨G, ρ, R, q⟩ => ?_⟩⟩
  refine wpAny_Call_Name_kw (ld_glob I hg hm ?_ hdb)
  refine PySem.W.callWith_KW0 (h₀ := X.base) I.ok.mod.kin hk hall (thn (hkw.pk.run pos pins s σ H (fun zs H1 => ∃ G1 ds ρ1, Rel X.K σ G1 H1 ρ1 ∧ Lk 0 σ G H ρ σ G1 H1 ρ1 ∧ RpAll X.K G1 zs ds ∧ ds.length = is.length ∧ F ((perm is ds).map .fro) fun d _ => ∀ v G' H', Rel X.K σ G' H' ρ1 → Lk 0 σ G H ρ σ G' H' ρ1 → Rp X.K G' v d → Q v H') I ⟨G, ρ, R, hkw.mono ρ _ _ (fun ds ρ1 q vs G1 H1 R1 l1 rs => ⟨G1, ds, ρ1, R1, l1, rs, q.1, q.2⟩) q⟩) fun ws s1 hh => ?_) hpl
  obtain ⟨zs, H1, I1, r, G1, ds, ρ1, R1, l1, rs, hl, q⟩ := hh
  refine ⟨I1.kIn, ?_⟩
  rw [hks]
  have hwl : ws.length = ps.length := by rw [← r.length, rps_len rs, hl, hil]
  refine run_g Fn.ok hG (hr.mono hj) (E := fun _ _ _ => False) pass0 I1 (hb s1 ws hwl) (vals_perm r is) ?_
  have rp := rps_perm rs is
  refine ⟨?_, G1, (perm is ds).map .fro, ⟨R1.gh, ?_, fun i d e => ?_, fun i d e => ?_, fun i j p d e h => ?_⟩, Fn.mo _ _ _ (fun d _ q v G' H' gh R' st rv => ?_) q⟩
  · rw [rps_len rp]
    have := Fn.ln _ _ q
    rw [List.length_map] at this
    exact this
  · rw [List.length_map, List.length_map, rps_len rp]
  · rw [List.getElem?_map] at e
    cases z : (perm is ds)[i]? with
    | none => rw [z] at e; cases e
    | some d' =>
      rw [z] at e
      cases e
      obtain ⟨v, h1, h2⟩ := rps_get' rp z
      exact ⟨v, by rw [List.getElem?_map, h1]; rfl, h2⟩
  · rw [List.getElem?_map] at e
    cases z : (perm is ds)[i]? with
    | none => rw [z] at e; cases e
    | some d' => rw [z] at e; cases e
  · rw [List.getElem?_map] at h
    cases z : (perm is ds)[i]? with
    | none => rw [z] at h; cases h
    | some d' => rw [z] at h; cases h
  · have sp : Stp Pure G1 H1 G' H' := st.weak fun a ⟨i, d, h, _⟩ => by
      rw [List.getElem?_map] at h
      cases z : (perm is ds)[i]? with
      | none => rw [z] at h; cases h
      | some d' => rw [z] at h; cases h
    exact q v G' H' (R1.pure sp gh) (l1.trans (Lk.pure sp)) rv
end
/-! ### two dicts that are equal -/
def eqDD (ps qs : List (D × D)) : Prop := ps.length = qs.length ∧ ∀ p ∈ ps, flatD p.2 = true ∧ isTupD p.1 = false ∧ dLook qs p.1 = some p.2
def oDD (neg : Bool) : O2 := fun a b k => match a, b with
  | .dict ps, .dict qs => eqDD ps qs ∧ k (.bool (!neg))
  | _, _ => False
theorem mo_DD {neg : Bool} : Mo2 (oDD neg) := fun a b k k' w h => by
  unfold oDD at h ⊢
  split at h
  · exact ⟨h.1, w _ h.2⟩
  · exact h.elim
theorem flat_rp {K : PySem.W.Frag} {G : Hp} {v w : V} {d : D} (h : flatD d = true) (r : Rp K G v d) (r' : Rp K G w d) : v = w ∧ flatB v = true := by
  cases d with
  | none => cases r; cases r'; exact ⟨rfl, rfl⟩
  | bool b => cases r; cases r'; exact ⟨rfl, rfl⟩
  | int i => cases r; cases r'; exact ⟨rfl, rfl⟩
  | str s => cases r; cases r'; exact ⟨rfl, rfl⟩
  | _ => cases h
theorem dd_hits {K : PySem.W.Frag} {G : Hp} {ks ls : List Key} {xs ys : List V} {ds es : List D} (hl : ks.length = xs.length) (ra : RpAll K G xs ds) (hl' : ls.length = ys.length) (rb : RpAll K G ys es) (h : ∀ p ∈ (ks.map keyD).zip ds, flatD p.2 = true ∧ isTupD p.1 = false ∧ dLook ((ls.map keyD).zip es) p.1 = some p.2) :
    ∀ p ∈ ks.zip xs, valV (ls.zip ys) p.1 = some p.2 ∧ flatB p.2 = true := by
  intro p hp
  obtain ⟨i, hi⟩ := List.mem_iff_getElem?.mp hp
  obtain ⟨k, v⟩ := p
  rw [List.getElem?_zip_eq_some] at hi
  obtain ⟨d, hd, rd⟩ := rps_get ra hi.2
  have m : (keyD k, d) ∈ (ks.map keyD).zip ds := List.mem_iff_getElem?.mpr ⟨i, by
    rw [List.getElem?_zip_eq_some]
    exact ⟨by rw [List.getElem?_map, hi.1]; rfl, hd⟩⟩
  obtain ⟨f, _, lk⟩ := h _ m
  have lk' : look kOf (.inl k) ((ls.map keyD).zip es) = some d := by
    have : dLook ((ls.map keyD).zip es) (keyD k) = look kOf (.inl k) ((ls.map keyD).zip es) := by unfold dLook; rw [kOf_D]
    rw [← this]; exact lk
  rcases look_K (k := k) hl' rb with ⟨w, e, h1, h2, h3⟩ | ⟨_, h2⟩
  · rw [lk'] at h2
    cases h2
    obtain ⟨rfl, fb⟩ := flat_rp f rd h3
    exact ⟨h1, fb⟩
  · rw [lk'] at h2; cases h2
section
variable {K : PySem.W.Frag} {X : Cx}
theorem dd_run {neg : Bool} {op : CmpOp} (hop : (op = .Eq ∧ neg = false) ∨ (op = .NotEq ∧ neg = true)) (hK : X.K = K) (hu : X.A.units < cLine) : Cmp K X op (oDD neg) := by
  subst hK
  refine ⟨mo_DD, fun pins s σ H x y v u Q I rx ry h => ?_⟩
  obtain ⟨G, a, b, g, hx, hy, q⟩ := h
  unfold oDD at q
  split at q
  · rename_i ps qs
    obtain ⟨⟨hl, hp⟩, q⟩ := q
    cases ps with
    | nil =>
      obtain ⟨p, rfl, r1⟩ := raw_of I g hx
      obtain ⟨p2, rfl, r2⟩ := raw_of I g hy
      rw [← hl] at r2
      cases rx
      cases ry
      rcases hop with ⟨rfl, rfl⟩ | ⟨rfl, rfl⟩
      · exact raw_eq r1 r2 hu ⟨.bl _, H, I, rfl, stay g q (.bl _)⟩
      · exact raw_ne r1 r2 hu ⟨.bl _, H, I, rfl, stay g q (.bl _)⟩
    | cons p0 ps =>
      obtain ⟨pa, rfl, ca⟩ := vw_dict g hx
      obtain ⟨pb, rfl, cb⟩ := vw_dict g hy
      cases rx
      cases ry
      obtain ⟨f0, t0, l0⟩ := hp p0 List.mem_cons_self
      rcases ca with ⟨ks, xs, ds, rd, hk, ra, e⟩ | ⟨ks, xs, ds, rd, hk, ra, e⟩
      · rcases cb with ⟨ls, ys, es, rd', hk', ra', e'⟩ | ⟨ls, ys, es, rd', hk', ra', e'⟩
        · subst e'
          rw [e] at hp hl
          obtain ⟨_, ya, va, rva, da⟩ := dk_rd I.hok rd
          obtain ⟨_, yb, vb, rvb, db⟩ := dk_rd I.hok rd'
          have n1 := rps_len ra
          have n2 := rps_len ra'
          have e1 := rva.length
          have e2 := rvb.length
          have hl2 : va.length = vb.length := by
            rw [← e1, ← e2]
            simp at hl ⊢
            omega
          rcases hop with ⟨rfl, rfl⟩ | ⟨rfl, rfl⟩
          · exact PySem.W.keq_eq (knd := mixKind X.prog X.w) (r := true) ya yb da db hu (fun _ => hits_all rvb rva (dd_hits hk ra hk' ra' hp)) ⟨.bl true, H, I, by simp [hl2]; rfl, stay g q (.bl _)⟩
          · exact PySem.W.keq_ne (knd := mixKind X.prog X.w) (r := true) ya yb da db hu (fun _ => hits_all rvb rva (dd_hits hk ra hk' ra' hp)) ⟨.bl false, H, I, by simp [hl2]; rfl, stay g q (.bl _)⟩
        · subst e'
          have : p0 ∈ (ks.map keyD).zip ds := by rw [← e]; exact List.mem_cons_self
          obtain ⟨k0, hk0, e0⟩ := List.mem_map.mp (List.of_mem_zip (a := p0.1) (b := p0.2) this).1
          rw [← e0] at l0
          unfold dLook at l0
          rw [kOf_D] at l0
          exfalso
          revert l0
          generalize p0.2 = d0
          clear hl hp e hx hy rd' q
          intro l0
          have : ∀ (ls : List (List Key)) (es : List D), look kOf (.inl k0) ((ls.map fun k => D.tuple .mad (k.map keyD)).zip es) = none := by
            intro ls
            induction ls with
            | nil => intro es; rfl
            | cons q r ih =>
              intro es
              cases es with
              | nil => rfl
              | cons e es =>
                show (if kOf (.tuple .mad (q.map keyD)) = some (.inl k0) then some e else look kOf (.inl k0) ((r.map fun k => D.tuple .mad (k.map keyD)).zip es)) = none
                rw [kOf_T, if_neg (fun z => nomatch z)]
                exact ih es
          have l1 : look kOf (.inl k0) ((ls.map fun k => D.tuple .mad (k.map keyD)).zip es) = some d0 := l0
          rw [this ls es] at l1
          cases l1
      · exfalso
        have : p0 ∈ (ks.map fun k => D.tuple .mad (k.map keyD)).zip ds := by rw [← e]; exact List.mem_cons_self
        obtain ⟨k0, hk0, e0⟩ := List.mem_map.mp (List.of_mem_zip (a := p0.1) (b := p0.2) this).1
        rw [← e0] at t0
        cases t0
  · exact q.elim
theorem c_ddne (hK : X.K = K) (hu : X.A.units < cLine) : Cmp K X .NotEq (oDD true) := dd_run (.inr ⟨rfl, rfl⟩) hK hu
theorem c_ddeq (hK : X.K = K) (hu : X.A.units < cLine) : Cmp K X .Eq (oDD false) := dd_run (.inl ⟨rfl, rfl⟩) hK hu
end
end Dl

set_option Elab.async false
set_option linter.all false
set_option maxRecDepth 100000
set_option maxHeartbeats 4000000
/-! repr of a new list of data in which dicts may stand, but no lists. -/
namespace Dl
open PySem PySem.Spec PyProof.Rows L2 Br
mutual
/-- no list and no script within -/
def noL : D → Bool
  | .list _ => false
  | .scr _ => false
  | .fn _ => false
  | .exc _ _ _ => false
  | .tuple _ ds => noLs ds
  | .dict kvs => noLk kvs
  | _ => true
def noLs : List D → Bool
  | [] => true
  | d :: ds => noL d && noLs ds
def noLk : List (D × D) → Bool
  | [] => true
  | (a, b) :: r => noL a && noL b && noLk r
end
theorem noLk_zip : ∀ {as bs : List D}, as.length = bs.length → noLk (as.zip bs) = true → noLs bs = true
  | [], [], _, _ => rfl
  | a :: as, b :: bs, h, q => by
    have q' : (noL a && noL b && noLk (as.zip bs)) = true := q
    simp only [Bool.and_eq_true] at q'
    show (noL b && noLs bs) = true
    rw [q'.1.2, noLk_zip (Nat.succ.inj h) q'.2]; rfl
theorem toPyKs_fst : ∀ ps : List (D × D), (toPyKs ps).map (·.1) = toPys (ps.map (·.1))
  | [] => rfl
  | (a, b) :: r => by show toPy a :: (toPyKs r).map (·.1) = toPy a :: toPys (r.map (·.1)); rw [toPyKs_fst r]
theorem toPyKs_snd : ∀ ps : List (D × D), (toPyKs ps).map (·.2) = toPys (ps.map (·.2))
  | [] => rfl
  | (a, b) :: r => by show toPy b :: (toPyKs r).map (·.2) = toPy b :: toPys (r.map (·.2)); rw [toPyKs_snd r]
section
variable {X : Cx} {pins : List (Addr × Obj)} {σ : L2.St} {H : Hp} {s : Shared}
theorem key_reads {h : Heap} {k : Key} {u : Value} (e : keyIs k u = true) : Reads h u (toPy (keyD k)) [] := by
  rcases keyIs_shape e with ⟨i, t, rfl, rfl⟩ | ⟨x, t, rfl, rfl⟩
  · exact .int i t
  · exact .str x t
theorem keys_reads {h : Heap} {P : Program} {w : World} : ∀ {es : List DictEntry} {kvs : List (Key × Value)}, Pairs (mixKind P w) es kvs → ReadsAll h (es.map (·.key)) (toPys ((kvs.map (·.1)).map keyD)) []
  | _, _, .nil => .nil
  | _, _, .cons h1 _ t => .cons (as := []) (bs := []) (key_reads h1) (keys_reads t)
theorem vals_of_pairs {P : Program} {w : World} : ∀ {es : List DictEntry} {kvs : List (Key × Value)}, Pairs (mixKind P w) es kvs → es.map (·.val) = kvs.map (·.2)
  | _, _, .nil => rfl
  | _, _, .cons _ h t => by rw [List.map_cons, List.map_cons, h, vals_of_pairs t]
theorem kv_vals {ks : List Key} : ∀ {xs : List V} {vs : List (Key × Value)}, KV (ks.zip xs) vs → ks.length = xs.length → Vals xs (vs.map (·.2)) ∧ vs.map (·.1) = ks := by
  induction ks with
  | nil =>
    intro xs vs r hl
    cases xs with
    | nil => cases r; exact ⟨.nil, rfl⟩
    | cons _ _ => cases hl
  | cons k ks ih =>
    intro xs vs r hl
    cases xs with
    | nil => cases hl
    | cons x xs =>
      cases r with
      | cons h t =>
        obtain ⟨a, b⟩ := ih t (Nat.succ.inj hl)
        exact ⟨.cons h.2 a, by rw [List.map_cons, b, ← h.1]⟩
theorem kt_vals {ks : List (List Key)} : ∀ {xs : List V} {vs : List (List Key × Addr × Value)}, KT H (ks.zip xs) vs → ks.length = xs.length → Vals xs (vs.map (·.2.2)) ∧ vs.map (·.1) = ks ∧ ∀ q ∈ vs, H q.2.1 = some (.tup (q.1.map kV)) := by
  induction ks with
  | nil =>
    intro xs vs r hl
    cases xs with
    | nil => cases r; exact ⟨.nil, rfl, fun _ z => nomatch z⟩
    | cons _ _ => cases hl
  | cons k ks ih =>
    intro xs vs r hl
    cases xs with
    | nil => cases hl
    | cons x xs =>
      cases r with
      | @cons p q ps qs h t =>
        obtain ⟨a, b, c⟩ := ih t (Nat.succ.inj hl)
        obtain ⟨e1, e2, e3⟩ := h
        refine ⟨.cons e3 a, by rw [List.map_cons, b, ← e1], fun q' hq => ?_⟩
        rcases List.mem_cons.mp hq with z | z
        · subst z
          have e1' : k = q'.1 := e1
          rw [← e1']; exact e2
        · exact c q' z
theorem flat_reads {h : Heap} : ∀ {k : List Key} {us : List Value}, Vals (k.map kV) us → ReadsAll h us (toPys (k.map keyD)) []
  | [], _, .nil => .nil
  | k :: ks, _, .cons r t => by
    refine .cons (as := []) (bs := []) ?_ (flat_reads t)
    cases k with
    | inl i => obtain ⟨t, rfl⟩ := r; exact .int i t
    | inr x => obtain ⟨t, rfl⟩ := r; exact .str x t
theorem tkeys_reads (I : Inv X pins σ H s) : ∀ {vs : List (List Key × Addr × Value)}, (∀ q ∈ vs, H q.2.1 = some (.tup (q.1.map kV))) → ReadsAll s.heap (vs.map fun q => Value.ref q.2.1) (toPys ((vs.map (·.1)).map fun k => D.tuple .mad (k.map keyD))) []
  | [], _ => .nil
  | q :: vs, h => by
    refine .cons (as := []) (bs := []) ?_ (tkeys_reads I fun p hp => h p (List.mem_cons_of_mem _ hp))
    obtain ⟨its, rv, ⟨o, ho, hc, n, hd⟩, _⟩ := I.tuple (SqT.of (h q List.mem_cons_self))
    exact .tuple ho hc hd (flat_reads rv)
mutual
theorem rp_reads (I : Inv X pins σ H s) : ∀ {v : V} {d : D}, Rp X.K H v d → noL d = true → ∀ u, RelV v u → ∃ as, Reads s.heap u (toPy d) as ∧ sysModules ∉ as
  | _, _, .non, _, u, r => by cases r; exact ⟨_, .none, List.not_mem_nil⟩
  | _, _, .bl b, _, u, r => by cases r; exact ⟨_, .bool b, List.not_mem_nil⟩
  | _, _, .int i, _, u, r => by obtain ⟨t, rfl⟩ := r; exact ⟨_, .int i t, List.not_mem_nil⟩
  | _, _, .str x, _, u, r => by obtain ⟨t, rfl⟩ := r; exact ⟨_, .str x t, List.not_mem_nil⟩
  | _, _, .lst _ _, h, _, _ => nomatch h
  | _, _, .scr _, h, _, _ => nomatch h
  | _, _, .fn _, h, _, _ => nomatch h
  | _, _, .exn _ _, h, _, _ => nomatch h
  | _, _, .exf _ _ _ _ _, h, _, _ => nomatch h
  | _, _, .tup q a, h, u, r => by
    cases r
    obtain ⟨its, rv, ⟨o, ho, hc, n, hd⟩, _⟩ := I.tuple (SqT.of q)
    obtain ⟨as, hr, ns⟩ := rps_reads I a h its rv
    exact ⟨_, .tuple ho hc hd hr, ns⟩
  | _, _, .tupC q a, h, u, r => by
    cases r
    obtain ⟨its, rv, ⟨o, ho, hc, n, hd⟩, _⟩ := I.tuple q
    obtain ⟨as, hr, ns⟩ := rps_reads I a h its rv
    exact ⟨_, .tuple ho hc hd hr, ns⟩
  | _, _, .tupZ q _ a, h, u, r => by
    cases r
    obtain ⟨its, rv, ⟨o, ho, hc, n, hd⟩, _⟩ := I.tuple (.inl (.inr ⟨_, q⟩))
    obtain ⟨as, hr, ns⟩ := rps_reads I a h its rv
    exact ⟨_, .tuple ho hc hd hr, ns⟩
  | _, _, .dK (ks := ks) (xs := xs) (ds := ds) q l a, h, u, r => by
    cases r
    have ln := rps_len a
    obtain ⟨_, ne, vs, rel, o, es, ep, h1, h2, h3, h4, h5, h6⟩ := dk_rd I.hok q
    obtain ⟨rv, ek⟩ := kv_vals rel l
    obtain ⟨as, hr, ns⟩ := rps_reads I a (noLk_zip (by simp; omega) h) _ rv
    refine ⟨_, .dict (as := []) (bs := as) h1 h2.1 h3 ?_ ?_, ?_⟩
    · rw [toPyKs_fst, List.map_fst_zip (by simp; omega), ← ek]
      exact keys_reads h5
    · rw [toPyKs_snd, List.map_snd_zip (by simp; omega), vals_of_pairs h5]
      exact hr
    · intro z
      rcases List.mem_append.mp z with z | z
      · rw [List.mem_singleton.mp z] at ne
        simp at ne
      · exact ns z
  | _, _, .dT (ks := ks) (xs := xs) (ds := ds) q l a, h, u, r => by
    cases r
    have ln := rps_len a
    obtain ⟨_, ne, vs, rel, o, es, ep, h1, h2, h3, h4, h5, h6⟩ := dt_rd I.hok q
    obtain ⟨rv, ek, ht⟩ := kt_vals rel l
    obtain ⟨as, hr, ns⟩ := rps_reads I a (noLk_zip (by simp; omega) h) _ rv
    refine ⟨_, .dict (as := []) (bs := as) h1 h2.1 h3 ?_ ?_, ?_⟩
    · rw [toPyKs_fst, List.map_fst_zip (by simp; omega), ← ek, h4, List.map_map]
      exact tkeys_reads I ht
    · rw [toPyKs_snd, List.map_snd_zip (by simp; omega), h4, List.map_map]
      exact hr
    · intro z
      rcases List.mem_append.mp z with z | z
      · rw [List.mem_singleton.mp z] at ne
        simp at ne
      · exact ns z
theorem rps_reads (I : Inv X pins σ H s) : ∀ {vs : List V} {ds : List D}, RpAll X.K H vs ds → noLs ds = true → ∀ us, Vals vs us → ∃ as, ReadsAll s.heap us (toPys ds) as ∧ sysModules ∉ as
  | _, _, .nil, _, us, r => by cases r; exact ⟨_, .nil, List.not_mem_nil⟩
  | _, _, .cons (d := d) (ds := ds) x t, h, us, r => by
    have h' : (noL d && noLs ds) = true := h
    simp only [Bool.and_eq_true] at h'
    cases r with
    | cons r1 r2 =>
      obtain ⟨as, q1, n1⟩ := rp_reads I x h'.1 _ r1
      obtain ⟨bs, q2, n2⟩ := rps_reads I t h'.2 _ r2
      exact ⟨_, .cons q1 q2, fun z => (List.mem_append.mp z).elim n1 n2⟩
end
end
/-! ### repr([..]) -/
def oReprL : O1 := fun d k => match d with
  | .list ds => noLs ds = true ∧ PyData.showableAll (toPys ds) = true ∧ PyData.depthAll (toPys ds) ≤ 58 ∧ (toPy (.list ds)).shown.length ≤ sizeLine ∧ k (.str (toPy (.list ds)).shown)
  | _ => False
theorem mo_reprL : Mo1 oReprL := fun a k k' w h => by
  unfold oReprL at h ⊢
  split at h
  · exact ⟨h.1, h.2.1, h.2.2.1, h.2.2.2.1, w _ h.2.2.2.2⟩
  · exact h.elim
theorem repr_listK {prog : Program} {w : World} {A : Around} {E : Value → Shared → Prop} {s : Shared} {Q : Value → Shared → Prop} {a : Addr} {o : Obj} {vs : Array Value} {n : Nat} {xs : List PyData} {as : List Addr} (h1 : s.heap.get? a = some o) (h2 : o.cls = .type "list") (h3 : o.data = .seq vs n) (h4 : ReadsAll s.heap vs.toList xs as) (hs : PyData.showableAll xs = true) (hsm : sysModules ∉ as) (hg : A.guards = some []) (hu : A.units + (PyData.depthAll xs + 2) < cLine) (hz : (PyData.list xs).shown.length ≤ sizeLine)
    (hQ : ∀ h' u tk, (∀ b o, s.heap.get? b = some o → h'.get? b = some o) → Q (.str (PyData.list xs).shown u) { s with heap := h', toks := tk }) : wpAny (model prog w) A (call (.builtin "repr") [.ref a]) Q E s := by
  have hz' : (listText (PyData.shownAll xs)).length ≤ sizeLine := by simpa only [PyData.shown] using hz
  obtain ⟨bs, hb, hk⟩ := ReprAllK.of_readsAll (prog := prog) (w := w) h4 hs (fun _ => hsm) (fun t ht => Nat.le_trans (listText_mem_le ht) hz')
  have hna : a ∉ bs := not_mem_of_deeper (.list h1 h2 h3 h4) (by simp only [PyData.depth]; omega) hb
  refine call_repr_slot (T := "list") (idr := "list.__repr__") (by omega) ⟨o, h1, h2⟩ F.slot_list_repr.toG ?_
  simp only [PyData.shown] at hQ
  obtain ⟨l⟩ := vs
  cases l with
  | nil =>
    have h4' : ReadsAll s.heap [] xs _ := h4
    cases h4'
    simp only [PyData.shownAll, listText_nil] at hQ
    exact call_list_repr_empty ⟨o, h1, h2⟩ h1 h3 ⟨_, _, rfl, hQ s.heap _ _ fun _ _ e => e⟩
  | cons x l =>
    exact call_list_reprK h1 h2 h3 hna (by simpa using hk.length_eq) (fun i y e => hk.item i y (by simpa using e)) hg (fun b _ => Clear.nil b) (by show A.units + 1 + _ < cLine; omega) (fun _ _ e => e) (fun h' u tk hk => ⟨_, _, rfl, hQ h' u tk hk⟩) hz'
section
variable {K : PySem.W.Frag} {X : Cx} {a : Expr} {ma : ME} {pos : Pos}
theorem callr_reprL (hu : X.A.units + 64 < cLine) (hG : Bare X.A) : CallR X (.builtin "repr") (fun xs H Q => ∃ x, xs = [x] ∧ rO1 X.K (pE X.K) oReprL x H Q) := by
  intro pins s σ H xs us Q I r h
  obtain ⟨x, rfl, G, d, g, hx, q⟩ := h
  have rx := vw_rp g hx
  unfold oReprL at q
  split at q
  · rename_i ds
    obtain ⟨h1, h2, h3, h4, q⟩ := q
    have fin : Q (.str (toPy (.list ds)).shown) H := stay g q (.str _)
    cases rx with
    | lst sq ra =>
      obtain ⟨u, rfl, ru⟩ := vals1 r
      cases (show u = Value.ref _ from ru)
      obtain ⟨its, rv, ⟨o, n, ho, hc, _, hd⟩, _⟩ := I.list (.inl sq)
      obtain ⟨as, hr, ns⟩ := rps_reads I ra h1 its rv
      refine repr_listK ho hc hd hr h2 ns hG (by omega) h4 fun h' u tk hk => ?_
      exact ⟨.str _, H, I.kept hk, ⟨_, rfl⟩, fin⟩
  · exact q.elim
theorem se_reprL {k : Nat} {p : Pos} (hK : X.K = K) (hG : Bare X.A) (hr : Room k X.A) (hg : Gl X "repr") (hm : X.mg "repr" = none) (ha : SE K (fV K) X a ma) (hs : starEach [a] X.env = [(false, eval a X.env)] := by rfl) (hpl : (backTo pos (starEach [] X.env)).any (·.1) = false := by rfl) :
    SE K (fE K) X (.Call (.Name "repr" p) [a] [] pos) (mUn oReprL ma) := by
  subst hK
  exact se_b1 (id := "repr") (callr_reprL hr.units hG) (fun y H Q h => ⟨y, rfl, h⟩) mo_reprL embE hg hm (by decide +kernel) ha hs (by decide) (by decide) hpl
end
end Dl

set_option Elab.async false
set_option linter.all false
set_option maxRecDepth 100000
set_option maxHeartbeats 4000000
/-! How large data are, as repr shows them. -/
namespace Dl
open PySem PySem.Spec PyProof.Rows L2 Br
/-- data without lists, at most m deep, of at most n signs and things -/
structure Wl (m n : Nat) (d : D) : Prop where
  nl : noL d = true
  sh : (toPy d).showable = true
  le : (toPy d).leavesShort 13 = true
  dp : (toPy d).depth ≤ m
  bk : (toPy d).bulk ≤ n
structure Wls (m n : Nat) (ds : List D) : Prop where
  nl : noLs ds = true
  sh : PyData.showableAll (toPys ds) = true
  le : PyData.leavesShortAll 13 (toPys ds) = true
  dp : PyData.depthAll (toPys ds) ≤ m
  bk : PyData.bulkAll (toPys ds) ≤ n
structure Wlk (m n : Nat) (ps : List (D × D)) : Prop where
  nl : noLk ps = true
  sh : PyData.showableKv (toPyKs ps) = true
  le : PyData.leavesShortKv 13 (toPyKs ps) = true
  dp : PyData.depthKv (toPyKs ps) ≤ m
  bk : PyData.bulkKv (toPyKs ps) ≤ n
theorem Wl.mono {m n m' n' : Nat} {d : D} (h : Wl m n d) (a : m ≤ m') (b : n ≤ n') : Wl m' n' d := ⟨h.nl, h.sh, h.le, Nat.le_trans h.dp a, Nat.le_trans h.bk b⟩
theorem Wls.mono {m n m' n' : Nat} {d : List D} (h : Wls m n d) (a : m ≤ m') (b : n ≤ n') : Wls m' n' d := ⟨h.nl, h.sh, h.le, Nat.le_trans h.dp a, Nat.le_trans h.bk b⟩
theorem wl_none {m n : Nat} : Wl m n .none := ⟨rfl, rfl, rfl, Nat.zero_le _, Nat.zero_le _⟩
/-- plain signs -/
def okSt (x : Str) : Prop := ∀ c ∈ x.cps.toList, c < 1114112
theorem wl_str {m n : Nat} {x : Str} (ok : okSt x) (h : x.length ≤ n) : Wl m n (.str x) :=
  ⟨rfl, rfl, List.all_eq_true.mpr fun c hc => decide_eq_true (Nat.lt_trans (ok c hc) (by decide)), Nat.zero_le _, h⟩
theorem wl_int {m n : Nat} {i : Int} (h : i.natAbs < 10 ^ 12) : Wl m n (.int i) := by
  refine ⟨rfl, ?_, ?_, Nat.zero_le _, Nat.zero_le _⟩
  · show decide (i.natAbs.log2 < 1920) = true
    refine decide_eq_true ?_
    by_cases z : i.natAbs = 0
    · rw [z]; decide
    · exact (Nat.log2_lt z).mpr (Nat.lt_of_lt_of_le h (by decide +kernel))
  · show decide ((PyData.shown (.int i)).length ≤ 13) = true
    exact decide_eq_true (PyData.shown_int_le h)
theorem wls_nil {m : Nat} : Wls m 0 [] := ⟨rfl, rfl, rfl, Nat.zero_le _, Nat.le_refl _⟩
theorem wls_cons {m n k : Nat} {d : D} {ds : List D} (h : Wl m n d) (r : Wls m k ds) : Wls m (n + 1 + k) (d :: ds) := by
  refine ⟨?_, ?_, ?_, ?_, ?_⟩
  · show (noL d && noLs ds) = true
    rw [h.nl, r.nl]; rfl
  · show (PyData.showable (toPy d) && PyData.showableAll (toPys ds)) = true
    rw [h.sh, r.sh]; rfl
  · show (PyData.leavesShort 13 (toPy d) && PyData.leavesShortAll 13 (toPys ds)) = true
    rw [h.le, r.le]; rfl
  · show max (PyData.depth (toPy d)) (PyData.depthAll (toPys ds)) ≤ m
    exact Nat.max_le.mpr ⟨h.dp, r.dp⟩
  · show PyData.bulk (toPy d) + 1 + PyData.bulkAll (toPys ds) ≤ n + 1 + k
    have := h.bk
    have := r.bk
    omega
theorem wls_all {m n : Nat} : ∀ {ds : List D}, (∀ d ∈ ds, Wl m n d) → Wls m (ds.length * (n + 1)) ds
  | [], _ => by rw [List.length_nil, Nat.zero_mul]; exact wls_nil
  | d :: ds, h => by
    have := wls_cons (h d List.mem_cons_self) (wls_all fun x hx => h x (List.mem_cons_of_mem _ hx))
    refine this.mono (Nat.le_refl _) ?_
    rw [List.length_cons, Nat.succ_mul]
    omega
theorem wl_tup {m n : Nat} {c : Tk} {ds : List D} (h : Wls m n ds) : Wl (m + 1) n (.tuple c ds) := by
  refine ⟨h.nl, h.sh, h.le, ?_, h.bk⟩
  have := h.dp
  show PyData.depth (.tuple (toPys ds)) ≤ m + 1
  simp only [PyData.depth]
  omega
theorem wlk_nil {m : Nat} : Wlk m 0 [] := ⟨rfl, rfl, rfl, Nat.zero_le _, Nat.le_refl _⟩
theorem wlk_cons {m n n' k : Nat} {a b : D} {ps : List (D × D)} (h : Wl m n a) (h' : Wl m n' b) (r : Wlk m k ps) : Wlk m (n + n' + 2 + k) ((a, b) :: ps) := by
  refine ⟨?_, ?_, ?_, ?_, ?_⟩
  · show (noL a && noL b && noLk ps) = true
    rw [h.nl, h'.nl, r.nl]; rfl
  · show (PyData.showable (toPy a) && PyData.showable (toPy b) && PyData.showableKv (toPyKs ps)) = true
    rw [h.sh, h'.sh, r.sh]; rfl
  · show (PyData.leavesShort 13 (toPy a) && PyData.leavesShort 13 (toPy b) && PyData.leavesShortKv 13 (toPyKs ps)) = true
    rw [h.le, h'.le, r.le]; rfl
  · have := h.dp
    have := h'.dp
    have := r.dp
    show PyData.depthKv ((toPy a, toPy b) :: toPyKs ps) ≤ m
    simp only [PyData.depthKv]
    omega
  · show PyData.bulk (toPy a) + PyData.bulk (toPy b) + 2 + PyData.bulkKv (toPyKs ps) ≤ n + n' + 2 + k
    have := h.bk
    have := h'.bk
    have := r.bk
    omega
theorem wlk_all {m n n' : Nat} : ∀ {ps : List (D × D)}, (∀ p ∈ ps, Wl m n p.1 ∧ Wl m n' p.2) → Wlk m (ps.length * (n + n' + 2)) ps
  | [], _ => by rw [List.length_nil, Nat.zero_mul]; exact wlk_nil
  | (a, b) :: ps, h => by
    have h0 := h (a, b) List.mem_cons_self
    have r := wlk_cons h0.1 h0.2 (wlk_all fun x hx => h x (List.mem_cons_of_mem _ hx))
    refine ⟨r.nl, r.sh, r.le, r.dp, Nat.le_trans r.bk ?_⟩
    rw [List.length_cons, Nat.succ_mul]
    omega
theorem wl_dict {m n : Nat} {ps : List (D × D)} (h : Wlk m n ps) : Wl (m + 1) n (.dict ps) := by
  refine ⟨h.nl, h.sh, h.le, ?_, h.bk⟩
  have := h.dp
  show PyData.depth (.dict (toPyKs ps)) ≤ m + 1
  simp only [PyData.depth]
  omega
/-- repr of a new list of such -/
theorem repr_wl {m n : Nat} {ds : List D} {k : D → Prop} (h : Wls m n ds) (hm : m ≤ 58) (hn : n ≤ 1000000) (q : k (.str (toPy (.list ds)).shown)) : oReprL (.list ds) k := by
  refine ⟨h.nl, h.sh, Nat.le_trans h.dp hm, ?_, q⟩
  refine PyData.shown_fits_bulk (B := 13) (by decide) (by decide) h.le (Nat.le_trans (show PyData.bulkAll (toPys ds) ≤ n from h.bk) ?_)
  exact Nat.le_trans hn (by decide)
end Dl

set_option Elab.async false
set_option linter.all false
set_option maxRecDepth 100000
set_option maxHeartbeats 4000000
/-! isinstance(d, dict) of a dict of one's own. -/
namespace Dl
open PySem PySem.Spec PyProof.Rows L2 Br
section
variable {K : PySem.W.Frag} {X : Cx}
def mIsDict (i : Nat) : ME := fun ρ k => match ρ[i]? with
  | some (.own (.dict _)) => k (.bool true) ρ
  | _ => False
theorem mo_isDict {i : Nat} : Mo (mIsDict i) := fun ρ k k' w => by
  unfold mIsDict
  split
  · exact w _ _
  · exact id
theorem se_isdict {i : Nat} {a : Expr} {p p2 pos : Pos} (hK : X.K = K) (hg : Gl X "isinstance") (hm : X.mg "isinstance" = none) (hg2 : Gl X "dict") (hm2 : X.mg "dict" = none) (ha : PE X a (tVar i)) (hs : starEach [a, .Name "dict" p2] X.env = [(false, eval a X.env), (false, eval (.Name "dict" p2) X.env)] := by rfl) (hs2 : starEach [.Name "dict" p2] X.env = [(false, eval (.Name "dict" p2) X.env)] := by rfl) (hpl : (backTo pos (starEach [.Name "dict" p2] X.env)).any (·.1) = false := by rfl) :
    SE K (fE K) X (.Call (.Name "isinstance" p) [a, .Name "dict" p2] [] pos) (mIsDict i) := by
  subst hK
  refine ⟨mo_isDict, pe_weak (pe_callB call_isi hg hm (by decide +kernel) (pa_cons ha (pa_cons (pe_bltn (v := .ty "dict") hg2 hm2 (by decide +kernel) rfl) pa_nil hs2) hs) (by decide) (by decide) hs hpl) fun σ H Q ⟨G, ρ, R, q⟩ => ?_⟩
  unfold mIsDict at q
  split at q
  · rename_i ps e
    obtain ⟨p, o, hv, hp, gp, ob⟩ := R.own i _ e
    have fin : Q (.bl true) H := q _ G H R .refl (.bl true)
    refine ⟨_, hv, ⟨_, .ty "dict", .type "dict", .type "dict", true, rfl, .ty "dict", ?_, rfl, fin⟩⟩
    cases ob with
    | dK l a => exact .base (.dK hp)
    | dT l a => exact .base (.dT hp)
  · exact q.elim
/-- a comparison, the left one a thing of one's own -/
theorem st_cO {op : CmpOp} {o : O2} {i : Nat} {a b : Expr} {mb : ME} {pos : Pos} (h : Cmp K X op o) (ha : PE X a (tVar i)) (hb : SE K (fV K) X b mb) (hm : behindInMarks op b = false) : ST K X (.Compare a [op] [b] pos) (mTest (mOpO o i mb)) := by
  have ho := op2_of (K := K) (π := pE K) h.mo
  refine ⟨mo_test (mo_opO ho.mono hb.mono), pt_weak (pt_cmpR h.opr ha hb.pe hm) fun σ H Q ⟨G, ρ, R, q⟩ => ?_⟩
  refine t_opO (φ := fE K) ho embE hb σ H _ ⟨G, ρ, R, mo_opO ho.mono hb.mono ρ _ _ (fun d ρ1 q v G1 H1 R1 l r => ?_) q⟩
  cases d with
  | bool b =>
    cases r
    exact ⟨b, rfl, q G1 H1 R1 l⟩
  | _ => exact q.elim
end
end Dl

set_option Elab.async false
set_option linter.all false
set_option maxRecDepth 100000
set_option maxHeartbeats 4000000
/-! texts and tuples repeated, sorted(tuple of pairs); a def whose promise is known otherwise. -/
namespace Dl
open PySem PySem.Spec PyProof.Rows L2 Br
def oMulS : O2 := fun a b k => match a, b with
  | .str z, .int n => 0 ≤ n ∧ n ≤ 1000 ∧ z.length ≤ 1000 ∧ (repS z n).length ≤ sizeLine ∧ k (.str (repS z n))
  | _, _ => False
theorem mo_mulS : Mo2 oMulS := fun a b k k' w h => by cases a <;> cases b <;> first | exact h.elim | exact ⟨h.1, h.2.1, h.2.2.1, h.2.2.2.1, w _ h.2.2.2.2⟩
def oMulT : O2 := fun a b k => match a, b with
  | .tuple _ xs, .int n => xs ≠ [] ∧ 2 ≤ n ∧ n ≤ 1000 ∧ xs.length ≤ 1000 ∧ k (.tuple .mad (List.replicate n.toNat xs).flatten)
  | _, _ => False
theorem mo_mulT : Mo2 oMulT := fun a b k k' w h => by cases a <;> cases b <;> first | exact h.elim | exact ⟨h.1, h.2.1, h.2.2.1, h.2.2.2.1, w _ h.2.2.2.2⟩
section
variable {K : PySem.W.Frag} {X : Cx} {a b : Expr} {ma mb : ME} {pos : Pos}
theorem opr_mulS : OpR X (binaryOp .Mult) (rO2 X.K (pE X.K) oMulS) := by
  intro pins s σ H x y v u Q I rx ry h
  obtain ⟨G, a, b, g, hx, hy, q⟩ := h
  cases a <;> cases b <;> first | exact q.elim | skip
  have ex := vw_str hx
  have ey := vw_int hy
  subst ex ey
  exact op_mulS pins s σ H _ _ v u Q I rx ry ⟨_, _, rfl, rfl, q.1, q.2.1, q.2.2.1, q.2.2.2.1, stay g q.2.2.2.2 (.str _)⟩
theorem rps_rep {G : Hp} {vs : List V} {ds : List D} (r : RpAll K G vs ds) : ∀ n : Nat, RpAll K G (List.replicate n vs).flatten (List.replicate n ds).flatten
  | 0 => .nil
  | n + 1 => by
    rw [List.replicate_succ, List.replicate_succ, List.flatten_cons, List.flatten_cons]
    exact rps_app r (rps_rep r n)
theorem opr_mulT : OpR X (binaryOp .Mult) (rO2 X.K (pE X.K) oMulT) := by
  intro pins s σ H x y v u Q I rx ry h
  obtain ⟨G, a, b, g, hx, hy, q⟩ := h
  cases a <;> cases b <;> first | exact q.elim | skip
  have ey := vw_int hy
  subst ey
  obtain ⟨h1, h2, h3, h4, q⟩ := q
  cases hx with
  | fro r =>
    obtain ⟨p, xs, rfl, sq, ra, _⟩ := rp_tup r
    have ln := rps_len ra
    refine op_repT pins s σ H _ _ v u Q I rx ry ⟨p, _, xs, rfl, rfl, sqT_same g sq, fun z => h1 (by rw [z] at ln; exact List.length_eq_zero_iff.mp ln.symm), h2, h3, by omega, fun p' np => ?_⟩
    exact newG g q np (.tup upd_same (rps_same (same_upd (g.free np)) (rps_rep ra _)))
  | own h ob => cases ob
theorem se_mulS (hK : X.K = K) (ha : SE K (fE K) X a ma) (hb : SE K (fV K) X b mb) : SE K (fE K) X (.BinOp a .Mult b pos) (mOp oMulS ma mb) := by subst hK; exact se_op opr_mulS (op2_of mo_mulS) embE ha hb
theorem se_mulT (hK : X.K = K) (ha : SE K (fE K) X a ma) (hb : SE K (fV K) X b mb) : SE K (fE K) X (.BinOp a .Mult b pos) (mOp oMulT ma mb) := by subst hK; exact se_op opr_mulT (op2_of mo_mulT) embE ha hb
/-- t[::-1] of a tuple -/
def mRev (ma : ME) : ME := fun ρ k => ma ρ fun d ρ1 => match d with
  | .tuple _ xs => k (.tuple .mad xs.reverse) ρ1
  | _ => False
theorem rps_rev {G : Hp} : ∀ {vs : List V} {ds : List D}, RpAll K G vs ds → RpAll K G vs.reverse ds.reverse
  | _, _, .nil => .nil
  | _, _, .cons r rs => by
    rw [List.reverse_cons, List.reverse_cons]
    exact rps_app (rps_rev rs) (.cons r .nil)
theorem se_rev {n : Nat} {p1 p2 p3 : Pos} (hK : X.K = K) (ha : SE K (fE K) X a ma) : SE K (fE K) X (.Subscript a (.Slice none none (some (.UnaryOp .USub (.Constant (.int 1) n p1) p2)) p3) pos) (mRev ma) := by
  subst hK
  refine ⟨fun ρ k k' w => ha.mono ρ _ _ fun d ρ1 q => ?_, pe_weak (pe_revT ha.pe) fun σ H Q ⟨G, ρ, R, q⟩ => ⟨G, ρ, R, ha.mono ρ _ _ (fun d ρ1 q x G1 H1 R1 l1 rx => ?_) q⟩⟩
  · cases d <;> first | exact q.elim | exact w _ _ q
  · cases d <;> first | exact q.elim | skip
    obtain ⟨p, xs, rfl, sq, ra, _⟩ := rp_tup rx
    refine ⟨p, xs, rfl, sqT_same R1.gh sq, fun p' np => ?_⟩
    have st := stp_newG (o := .tup xs.reverse) R1.gh np
    exact q _ _ _ (R1.pure st (same_new2 R1.gh np)) (l1.trans (.pure st)) (.tup upd_same (rps_same st.gg (rps_rev ra)))
/-- sorted(t), t a tuple of pairs -/
def oSorted_tups : O1 := fun a k => match a with
  | .tuple _ ds => ds.all isPr = true ∧ ∀ ds' : List D, ds'.Perm ds → k (.list ds')
  | _ => False
theorem mo_sortedT : Mo1 oSorted_tups := fun a k k' w h => by cases a <;> first | exact h.elim | exact ⟨h.1, fun ds' p => w _ (h.2 ds' p)⟩
theorem callr_sortedT : CallR X (.builtin "sorted") (fun xs H Q => ∃ x, xs = [x] ∧ rO1 X.K (pF X.K) oSorted_tups x H Q) := by
  intro pins s σ H xs us Q I r h
  obtain ⟨x, rfl, G, d, g, hx, q⟩ := h
  cases d <;> first | exact q.elim | skip
  rename_i c ds
  have rx := vw_rp g hx
  cases hx with
  | own h ob => cases ob
  | fro rr =>
  obtain ⟨p, vs, rfl, sq, ra, _⟩ := rp_tup rr
  obtain ⟨hall, q⟩ := q
  have nm : ∀ {vs : List V} {ds : List D}, RpAll X.K G vs ds → ds.all isPr = true → ∀ u ∈ vs, ∃ n, NameAt X.K H u n := by
    intro vs
    induction vs with
    | nil => intro ds _ _ u hu; cases hu
    | cons v vs ih =>
      intro ds r h u hu
      cases r with
      | cons r1 r2 =>
        rw [List.all_cons, Bool.and_eq_true] at h
        rcases List.mem_cons.mp hu with z | z
        · subst z; exact ⟨_, pr_name g r1 h.1⟩
        · exact ih r2 h.2 u z
  refine cr_sortedTN pins s σ H _ us Q I r ⟨p, vs, nameOf X.K H, rfl, sqT_same g sq, fun u hu => ?_, fun us' n pm pw nn => ?_⟩
  · obtain ⟨m, hm⟩ := nm ra hall u hu
    exact nameOf_at hm
  · obtain ⟨ds', pd, rs'⟩ := perm_rps pm ra
    exact newF g (q ds' pd) nn (.lst rs')
theorem se_sorted_tups {k : Nat} {p : Pos} (hK : X.K = K) (hr : Room k X.A) (hg : Gl X "sorted") (hm : X.mg "sorted" = none) (ha : SE K (fV K) X a ma) (hs : starEach [a] X.env = [(false, eval a X.env)] := by rfl) (hpl : (backTo pos (starEach [] X.env)).any (·.1) = false := by rfl) :
    SE K (fF K) X (.Call (.Name "sorted" p) [a] [] pos) (mUn oSorted_tups ma) := by
  subst hK
  exact se_b1 (id := "sorted") callr_sortedT (fun y H Q h => ⟨y, rfl, h⟩) mo_sortedT embF hg hm (by decide +kernel) ha hs (by decide) (by decide) hpl
end
/-! ### a def of one argument that gives a plain thing, whatever its promise's form -/
section
variable {P : Program} {w : World} {K : PySem.W.Frag} {mg : Str → Option Value} {base : Heap} {k : Nat} {f : Addr} {fd : FuncData}
theorem fnG_weak {CX : CXT} {ps : List Str} {sp sp' : Sp} (F : FnG P w K mg base CX k f fd ps sp) (wk : ∀ vs H Q E, sp' vs H Q E → sp vs H Q E) : FnG P w K mg base CX k f fd ps sp' :=
  ⟨fun vs H Q E h => F.many vs H Q E (wk _ _ _ _ h), fun Ar out st H as us vs Q E g hr e0 hb r h => F.runs Ar out st H as us vs Q E g hr e0 hb r (wk _ _ _ _ h)⟩
def F_look (ok : D → Prop) (g : D → Str) : Fs := fun cs k => ∃ d, cs = [.fro d] ∧ ok d ∧ k (.str (g d)) []
theorem fnD_look {ok : D → Prop} {g : D → Str} {x : Str} {sp : Sp} (F : FnG P w K mg base CX0 k f fd [x] sp)
    (wk : ∀ (v : V) (d : D) (H : Hp) (Q : VK) (E : XK), Rp K H v d → ok d → (∀ H', Same H H' → Q (.str (g d)) H') → sp [v] H Q E) : FnD P w K mg base k f fd [x] 0 (F_look ok g) := by
  refine ⟨fnG_weak F fun vs H Q E ⟨hl, G, cs, R, d, hcs, od, q⟩ => ?_, fun cs k k' w ⟨d, h1, h2, h3⟩ => ⟨d, h1, h2, w _ _ h3⟩, fun cs k ⟨d, h1, _⟩ => by rw [h1]; rfl, Nat.zero_le _⟩
  subst hcs
  match vs, hl with
  | [v], _ =>
    obtain ⟨v', e, r⟩ := R.fro 0 d rfl
    cases e
    refine wk v d H Q E (rp_same R.gh r) od fun H' s => q _ G H' (R.gh.trans s) ⟨R.gh.trans s, rfl, fun i d e => ?_, fun i d e => ?_, fun i j p d c e => ?_⟩ ⟨Same.refl _, fun a o _ e => s a o e, fun _ _ _ _ g _ => g, fun a e => ?_⟩ (.str _)
    · cases e
    · cases e
    · cases e
    · cases z : H a with
      | none => rfl
      | some o => rw [s a o z] at e; cases e
end
end Dl

set_option Elab.async false
set_option linter.all false
set_option maxRecDepth 100000
set_option maxHeartbeats 4000000
/-! A def that hands back a tuple of two things of its caller's own: x, y = f(..). -/
namespace Dl
open PySem PySem.Spec PyProof.Rows L2 Br
/-- a tuple of two new things that nobody else has -/
structure Two (K : PySem.W.Frag) (H0 G H : Hp) (t p q : Addr) (d e : D) : Prop where
  tup : H t = some (.tup [.ref p, .ref q])
  ne : p ≠ q
  p0 : H0 p = none
  q0 : H0 q = none
  pg : G p = none
  qg : G q = none
  pd : ∃ o, H p = some o ∧ ObR K G o d
  qd : ∃ o, H q = some o ∧ ObR K G o e
abbrev F2 := List Cell → (D → D → List Cell → Prop) → Prop
def sp2 (K : PySem.W.Frag) (np n : Nat) (F : F2) : Sp := fun vs H Q _ => vs.length = np ∧ ∃ G cs, Rel K (vs.map some) G H cs ∧
  F cs fun d e cs' => ∀ t p q G' H', Same G' H' → Rel K ((vs.take n).map some) G' H' cs' → Stp (Ow (vs.map some) cs) G H G' H' → Two K H G' H' t p q d e → Q (.ref t) H'
structure Fn2 (P : Program) (w : World) (K : PySem.W.Frag) (mg : Str → Option Value) (base : Heap) (k : Nat) (f : Addr) (fd : FuncData) (ps : List Str) (n : Nat) (F : F2) : Prop where
  ok : FnG P w K mg base CX0 k f fd ps (sp2 K ps.length n F)
  mo : ∀ cs (k k' : D → D → List Cell → Prop), (∀ d e cs', k d e cs' → k' d e cs') → F cs k → F cs k'
  ln : ∀ cs k, F cs k → cs.length = ps.length
  le : n ≤ ps.length
/-! ### the body -/
abbrev M2 := (D → D → Cs → Prop) → Cs → Prop
/-- what lies in the slots at the end -/
structure End2 (n : Nat) (σ : L2.St) (H : Hp) (ρ : Cs) (t p q : Addr) (i j : Nat) (d e : D) : Prop where
  tup : H t = some (.tup [.ref p, .ref q])
  ij : i ≠ j
  ni : n ≤ i
  nj : n ≤ j
  si : σ[i]? = some (some (V.ref p))
  sj : σ[j]? = some (some (V.ref q))
  ri : ρ[i]? = some (.own d)
  rj : ρ[j]? = some (.own e)
  own : ∀ l, l < n → ∃ c, ρ[l]? = some (.own c)
def tS2 (K : PySem.W.Frag) (n : Nat) (m : M2) : TS := fun T σ H => ∃ G ρ E, Rel K σ G H ρ ∧ m E ρ ∧ ∀ t p q i j d e σ' G' H' ρ', Rel K σ' G' H' ρ' → Lk n σ G H ρ σ' G' H' ρ' → End2 n σ' H' ρ' t p q i j d e → E d e ρ' → T.rt (.ref t) H'
structure SB2 (K : PySem.W.Frag) (n : Nat) (X : Cx) (sts : List Stmt) (m : M2) : Prop where
  mono : ∀ (ρ : Cs) (E E' : D → D → Cs → Prop), (∀ d e ρ', E d e ρ' → E' d e ρ') → m E ρ → m E' ρ
  ps : PSs X sts (tS2 K n m)
def sRet2 (n i j : Nat) : M2 := fun E ρ => i ≠ j ∧ n ≤ i ∧ n ≤ j ∧ (∀ l, l < n → ∃ c, ρ[l]? = some (Cell.own c)) ∧ ∃ d e, ρ[i]? = some (.own d) ∧ ρ[j]? = some (.own e) ∧ E d e ρ
def sSeq2 (a : MS) (b : M2) : M2 := fun E ρ => a { nx := b E, rt := fun _ _ => False } ρ
section
variable {K : PySem.W.Frag} {X : Cx} {n : Nat} {st : Stmt} {sts : List Stmt} {ms : MS} {mu : M2} {a b : Expr} {pos : Pos}
theorem sb2_ret {i j : Nat} {x1 : Nat} {p1 : Pos} (ha : PE X a (tVar i)) (hb : PE X b (tVar j)) (hs : starEach [a, b] X.env = (false, eval a X.env) :: starEach [b] X.env := by rfl) (hs2 : starEach [b] X.env = (false, eval b X.env) :: starEach [] X.env := by rfl) :
    SB2 K n X [.Return (some (.Tuple [a, b] x1 p1)) pos] (sRet2 n i j) := by
  refine ⟨fun ρ E E' w h => ?_, pss_weak (pss_one (ps_ret (pe_tup (pa_cons ha (pa_cons hb pa_nil hs2) hs)))) fun T σ H ⟨G, ρ, E, R, q, fin⟩ => ?_⟩
  · obtain ⟨h1, h2, h3, h4, d, e, h5, h6, h7⟩ := h
    exact ⟨h1, h2, h3, h4, d, e, h5, h6, w _ _ _ h7⟩
  · obtain ⟨h1, h2, h3, h4, d, e, h5, h6, h7⟩ := q
    obtain ⟨p, o, vp, hp, gp, op⟩ := R.own i d h5
    obtain ⟨q, o', vq, hq, gq, oq⟩ := R.own j e h6
    refine ⟨_, vp, _, vq, Nat.le_of_ble_eq_true rfl, fun t ft => ?_⟩
    have st := stp_newG (G := G) (o := .tup [V.ref p, V.ref q]) R.gh ft
    exact fin t p q i j d e σ _ _ ρ (R.pure st (same_new2 R.gh ft)) (.pure st) ⟨upd_same, h1, h2, h3, vp, vq, h5, h6, h4⟩ h7
theorem sb2_cons (h : SS K n X st ms) (g : SB2 K n X sts mu) : SB2 K n X (st :: sts) (sSeq2 ms mu) := by
  refine ⟨fun ρ E E' w => h.mono ρ _ _ (fun ρ1 => g.mono ρ1 _ _ w) (fun _ _ z => z) (fun _ z => z) (fun _ z => z), pss_weak (pss_cons h.ps g.ps) fun T σ H ⟨G, ρ, E, R, q, fin⟩ => ?_⟩
  exact ⟨G, ρ, _, R, q, fun σ1 G1 H1 ρ1 R1 l1 q1 => ⟨G1, ρ1, E, R1, q1, fun t p q i j d e σ2 G2 H2 ρ2 R2 l2 => fin t p q i j d e σ2 G2 H2 ρ2 R2 (l1.trans l2)⟩, fun _ _ _ _ _ _ _ _ _ z => z.elim, fun _ _ _ _ _ _ z => z.elim, fun _ _ _ _ _ _ z => z.elim⟩
end
/-- the def -/
def F2of (np m n : Nat) (b : M2) : F2 := fun cs k => cs.length = np ∧ (∀ (l : Nat) (d : D), cs[l]? = some (.own d) → l < n) ∧ ∃ k0 : D → D → List Cell → Prop, (∀ d e cs', k0 d e cs' → k d e cs') ∧ b (fun d e ρ' => k0 d e (ρ'.take n)) (cs ++ List.replicate m .un)
section
variable {P : Program} {w : World} {K : PySem.W.Frag} {mg : Str → Option Value} {base : Heap} {k : Nat} {f : Addr} {fd : FuncData} {ps : List Str}
theorem fn_of2 {x qual : Str} {st : Stmt} {N : List Str} {n np m : Nat} {b : M2} (Fu : Fun K x qual st f fd) (S : FnScope N ps (defScope st)) (hn : n ≤ ps.length) (hp : ps.length = np) (hm : N.length - ps.length = m)
    (body : ∀ (cdv : Value) (Ar : Around) (out : List PySem.Env) (s0 : Shared) (H : Hp) (E : XK), Bare Ar → Room k (Ar.deeper (envOfC qual (defScope st) s0.heap.objs.size f cdv)) →
      SB2 K n (cxOf CX0 P w K mg base N qual (defScope st) f cdv Ar out s0 H E).nox (defBody st) b) : Fn2 P w K mg base (k + 1) f fd ps n (F2of np m n b) := by
  subst hp hm
  refine ⟨okG Fu S (fun vs H Q E h => h.1) fun cdv Ar out s0 H vs Q E hG hr hsp => ?_, fun cs k k' w ⟨h1, h2, k0, h3, h4⟩ => ⟨h1, h2, k0, fun d e cs' z => w _ _ _ (h3 _ _ _ z), h4⟩, fun cs k h => h.1, hn⟩
  obtain ⟨hl, G, cs, R, hcl, hown, k0, wk, h⟩ := hsp
  have sb := body cdv Ar out s0 H E hG hr
  have R0 := R.more (N.length - ps.length)
  have e0 : vs.map some ++ List.replicate (N.length - ps.length) none = L2.start N vs := by unfold L2.start; rw [hl]
  rw [e0] at R0
  have st0 : ∀ i, i < n → (L2.start N vs)[i]? = (vs.map some)[i]? := fun i hi => by
    unfold L2.start
    rw [List.getElem?_append_left (by rw [List.length_map]; omega)]
  have ow1 : ∀ p, Ow (L2.start N vs) (cs ++ List.replicate (N.length - ps.length) .un) p → ∃ (i : Nat) (d : D), cs[i]? = some (Cell.own d) ∧ (vs.map some)[i]? = some (some (V.ref p)) ∧ (L2.start N vs)[i]? = some (some (V.ref p)) := by
    rintro p ⟨i, d, h1, h2⟩
    by_cases hi : i < cs.length
    · rw [List.getElem?_append_left hi] at h1
      have h3 := h2
      unfold L2.start at h2
      rw [List.getElem?_append_left (by rw [List.length_map]; omega)] at h2
      exact ⟨i, d, h1, h2, h3⟩
    · rw [List.getElem?_append_right (by omega), List.getElem?_replicate] at h1
      split at h1 <;> cases h1
  refine ⟨_, sb.ps, G, _, _, R0, h, fun t p q i j d e σ' G' H' ρ' R' l en hk => ?_⟩
  have hs : n ≤ σ'.length := by
    by_cases z : n = 0
    · omega
    · have e := (l.pn (n - 1) (by omega)).trans (st0 (n - 1) (by omega))
      have hv : n - 1 < vs.length := by omega
      rw [List.getElem?_map, List.getElem?_eq_getElem hv] at e
      have := (List.getElem?_eq_some_iff.mp e).1
      omega
  -- what is owned at the end is new, but for what was handed in
  have new : ∀ (p : Addr) (i : Nat) (d : D), n ≤ i → σ'[i]? = some (some (V.ref p)) → ρ'[i]? = some (.own d) → H p = none := fun p i d hi hs hr => by
    rcases l.sb p ⟨i, d, hr, hs⟩ with z | z
    · obtain ⟨m, c, h1, _, h3⟩ := ow1 p z
      have hm := hown m c h1
      obtain ⟨c', h4⟩ := en.own m hm
      have h5 : σ'[m]? = some (some (V.ref p)) := (l.pn m hm).trans h3
      have := R'.apart m i p c' d h4 hr h5 hs
      omega
    · exact z
  obtain ⟨p', o1, vp, hp, gp, op⟩ := R'.own i d en.ri
  obtain ⟨q', o2, vq, hq, gq, oq⟩ := R'.own j e en.rj
  rw [en.si] at vp
  cases vp
  rw [en.sj] at vq
  cases vq
  refine wk _ _ _ hk t p q G' H' R'.gh (R'.cut (by omega) hs fun i hi => (l.pn i hi).trans (st0 i hi)) (l.st.weak fun p z => ?_) ⟨en.tup, fun z => ?_, new p i d en.ni en.si en.ri, new q j e en.nj en.sj en.rj, gp, gq, ⟨o1, hp, op⟩, ⟨o2, hq, oq⟩⟩
  · obtain ⟨m, c, h1, h2, _⟩ := ow1 p z
    exact ⟨m, c, h1, h2⟩
  · subst z
    exact en.ij (R'.apart i j p d e en.ri en.rj en.si en.sj)
end
/-! ### x, y = f(..) -/
def sTwo (F : F2) (n : Nat) (mr : MR) (x y : Nat) : MS := fun E ρ => mr ρ fun as ρ1 => (slotsOf as).Nodup ∧ slotsOf (as.drop n) = [] ∧ match cellsOf ρ1 as with
  | some cs => F cs fun d e cs' => E.nx (((putBack ρ1 as cs').set x (.own d)).set y (.own e))
  | none => False
section
variable {K : PySem.W.Frag} {X : Cx} {a : Expr} {es : List Expr} {mr : MR}
/-- the cells behind a call -/
theorem rel_back {σ : L2.St} {G H G' H' : Hp} {ρ : Cs} {vs : List V} {as : List Ar} {cs cs' : List Cell} {n : Nat} (R1 : Rel K σ G H ρ) (ar : ArR K σ G vs as) (hcs : cellsOf ρ as = some cs) (nd : (slotsOf as).Nodup) (ds : slotsOf (as.drop n) = []) (hn : n ≤ vs.length) :
    Rel K (vs.map some) G H cs ∧ (∀ p, Ow (vs.map some) cs p → Ow σ ρ p) ∧ (Same G' H' → Rel K ((vs.take n).map some) G' H' cs' → Stp (Ow (vs.map some) cs) G H G' H' → Rel K σ G' H' (putBack ρ as cs') ∧ ∀ p, Ow σ (putBack ρ as cs') p → Ow σ ρ p) := by
  obtain ⟨hl, get⟩ := cells_get R1 ar hcs
  have RR : Rel K (vs.map some) G H cs := by
    refine ⟨R1.gh, by rw [List.length_map, hl], fun i d e => ?_, fun i d e => ?_, fun i k p d e h h' g g' => ?_⟩
    · rcases get i _ e with ⟨d', v, z, _, hv, r⟩ | ⟨d', j, v, z, _⟩
      · cases z
        exact ⟨v, by rw [List.getElem?_map, hv]; rfl, r⟩
      · cases z
    · rcases get i _ e with ⟨d', v, z, _⟩ | ⟨d', j, v, z, _, hj, hv, hs⟩
      · cases z
      · cases z
        obtain ⟨p, o, h1, h2⟩ := R1.own j d hj
        rw [hs] at h1
        cases h1
        exact ⟨p, o, by rw [List.getElem?_map, hv]; rfl, h2⟩
    · rcases get i _ h with ⟨d', v, z, _⟩ | ⟨d', j, v, z, ha, hj, hv, hs⟩
      · cases z
      · rcases get k _ h' with ⟨d'', v', z', _⟩ | ⟨d'', j', v', z', ha', hj', hv', hs'⟩
        · cases z'
        · cases z
          cases z'
          rw [List.getElem?_map, hv] at g
          rw [List.getElem?_map, hv'] at g'
          cases g
          cases g'
          have := R1.apart j j' p d e hj hj' hs hs'
          subst this
          exact slots_inj nd ha ha'
  refine ⟨RR, ?_, fun gh R' st => ?_⟩
  · rintro p ⟨i, d, h1, h2⟩
    rcases get i _ h1 with ⟨d', v, z, _⟩ | ⟨d', j, v, z, ha, hj, hv, hs⟩
    · cases z
    · cases z
      rw [List.getElem?_map, hv] at h2
      cases h2
      exact ⟨j, d, hj, hs⟩
  have hcl : cs'.length = n := by
    rw [← R'.len, List.length_map, List.length_take]; omega
  have arg : ∀ (i j : Nat), as[i]? = some (Sum.inl j) → ∃ v d, vs[i]? = some v ∧ σ[j]? = some (some v) ∧ ρ[j]? = some (.own d) ∧ i < n ∧ cs[i]? = some (.own d) := fun i j e => by
    have hi := drop_slots ds e
    obtain ⟨c, hc⟩ : ∃ c, cs[i]? = some c := ⟨_, List.getElem?_eq_getElem (by omega)⟩
    rcases get i c hc with ⟨d', v, z, ha, _⟩ | ⟨d', j', v, z, ha, hj, hv, hs⟩
    · rw [e] at ha; cases ha
    · rw [e] at ha
      cases ha
      subst z
      exact ⟨v, d', hv, hs, hj, hi, hc⟩
  have tk : ∀ (i : Nat) (v : V), i < n → vs[i]? = some v → ((vs.take n).map some)[i]? = some (some v) := fun i v hi e => by
    rw [List.map_take, List.getElem?_take_of_lt hi, List.getElem?_map, e]; rfl
  have cases_ : ∀ (j : Nat) (c : Cell), (putBack ρ as cs')[j]? = some c → (∃ (i : Nat) (v : V) (d : D), as[i]? = some (Sum.inl j) ∧ cs'[i]? = some c ∧ i < n ∧ vs[i]? = some v ∧ σ[j]? = some (some v) ∧ ρ[j]? = some (.own d)) ∨ (ρ[j]? = some c ∧ ∀ i : Nat, as[i]? ≠ some (Sum.inl j)) := fun j c e => by
    rcases pb_get nd e with ⟨i, h1, h2⟩ | ⟨h1, h2⟩
    · obtain ⟨v, d, z1, z2, z3, z4, _⟩ := arg i j h1
      exact .inl ⟨i, v, d, h1, h2, z4, z1, z2, z3⟩
    · refine .inr ⟨h1, fun i z => ?_⟩
      have := h2 i z
      have := drop_slots ds z
      omega
  have apart1 : ∀ (j : Nat) (d : D) (p : Addr), ρ[j]? = some (Cell.own d) → σ[j]? = some (some (V.ref p)) → (∀ i : Nat, as[i]? ≠ some (Sum.inl j)) → ¬ Ow (vs.map some) cs p := fun j d p h1 h2 no ⟨i, d', h3, h4⟩ => by
    rcases get i _ h3 with ⟨_, _, z, _⟩ | ⟨d'', j', v, z, ha, hj, hv, hs⟩
    · cases z
    · rw [List.getElem?_map, hv] at h4
      cases h4
      have := R1.apart j j' p d d'' h1 hj h2 hs
      subst this
      exact no i ha
  refine ⟨⟨gh, by rw [pb_len]; exact R1.len, fun j d e => ?_, fun j d e => ?_, fun j j' p d e h h' g g' => ?_⟩, ?_⟩
  · rcases cases_ j _ e with ⟨i, v, d', h1, h2, h3, h4, h5, h6⟩ | ⟨h1, h2⟩
    · obtain ⟨v', g1, g2⟩ := R'.fro i d h2
      rw [tk i v h3 h4] at g1
      cases g1
      exact ⟨v, h5, g2⟩
    · obtain ⟨v, g1, g2⟩ := R1.fro j d h1
      exact ⟨v, g1, rp_same st.gg g2⟩
  · rcases cases_ j _ e with ⟨i, v, d', h1, h2, h3, h4, h5, h6⟩ | ⟨h1, h2⟩
    · obtain ⟨p, o, g1, g2⟩ := R'.own i d h2
      rw [tk i v h3 h4] at g1
      cases g1
      exact ⟨p, o, h5, g2⟩
    · obtain ⟨p, o, g1, g2, g3, g4⟩ := R1.own j d h1
      have na := apart1 j d p h1 g1 h2
      exact ⟨p, o, g1, st.hh p o na g2, st.fr p o na g2 g3 (ob_tup g4), ob_same st.gg g4⟩
  · have oj : ∀ (j : Nat) (d : D), (putBack ρ as cs')[j]? = some (.own d) → ∃ d, ρ[j]? = some (.own d) := fun j d e => by
      rcases cases_ j _ e with ⟨i, v, d', h1, h2, h3, h4, h5, h6⟩ | ⟨h1, h2⟩
      · exact ⟨d', h6⟩
      · exact ⟨d, h1⟩
    obtain ⟨d1, e1⟩ := oj j d h
    obtain ⟨d2, e2⟩ := oj j' e h'
    exact R1.apart j j' p d1 d2 e1 e2 g g'
  · rintro p ⟨j, d, h1, h2⟩
    rcases cases_ j _ h1 with ⟨i, v, d', _, _, _, _, _, h6⟩ | ⟨h3, _⟩
    · exact ⟨j, d', h6, h2⟩
    · exact ⟨j, d, h3, h2⟩
theorem ss_two {F : F2} {m n k j x y : Nat} {f : Addr} {fd : FuncData} {ps : List Str} {fx : Str} {p pos p1 p2 : Pos} {tx ty : Expr} {kt : Nat} (Fn : Fn2 X.prog X.w K X.mg X.base j f fd ps n F) (hK : X.K = K) (hG : Bare X.A) (hr : Room k X.A) (hj : j ≤ k) (hg : Gl X fx) (hm : X.mg fx = some (.ref f)) (hk : PySem.W.keepIn K (.ref f) = true) (hb : Binds K fd ps []) (ha : SR K X (a :: es) mr)
    (hx : m ≤ x) (hy : m ≤ y) (gx : PG X (.Tuple [tx, ty] kt p1) (gTup K 2 (gCons (gName x) (gCons (gName y) gNil)))) (hxy : x ≠ y)
    (hdb : (fx == ("__debug__" : Str)) = false := by decide) (he : starEach (a :: es) X.env = (false, eval a X.env) :: starEach es X.env := by rfl) (hpl : (backTo pos (starEach es X.env)).any (·.1) = false := by rfl)
    (hs : swapsWithSole [.Tuple [tx, ty] kt p1] (.Call (.Name fx p) (a :: es) [] pos) p2.line X.env = pure false := by rfl) (hw : swappedStores [.Tuple [tx, ty] kt p1] (.Call (.Name fx p) (a :: es) [] pos) X.env = pure none := by rfl)
    (h1 : (assignEach [.Tuple [tx, ty] kt p1] X.env).map (·.2) = [assign (.Tuple [tx, ty] kt p1) X.env] := by rfl) :
    SS K m X (.Assign [.Tuple [tx, ty] kt p1] (.Call (.Name fx p) (a :: es) [] pos) p2) (sTwo F n mr x y) := by
  subst hK
  refine ⟨fun ρ E E' w _ _ _ => ha.mono ρ _ _ fun as ρ1 q => ⟨q.1, q.2.1, ?_⟩, ps_weak (ps_asg (pe_callG (E := fun _ _ _ => False) Fn.ok hG (hr.mono hj) hg hm hk hb pass0 ha.pa hdb he hpl) gx hs hw h1) fun T σ H ⟨G, ρ, E, R, q, fin, _⟩ => ?_⟩
  · have q := q.2.2
    revert q
    cases cellsOf ρ1 as with
    | none => exact id
    | some cs => exact Fn.mo _ _ _ fun d e cs' => w _
  refine ⟨G, ρ, R, ha.mono ρ _ _ (fun as ρ1 q vs G1 H1 R1 l1 ar => ?_) q⟩
  obtain ⟨nd, ds, q⟩ := q
  rw [List.append_nil]
  split at q
  · rename_i cs hcs
    obtain ⟨hl, _⟩ := cells_get R1 ar hcs
    have hv : vs.length = ps.length := by rw [← hl]; exact Fn.ln _ _ q
    have hn : n ≤ vs.length := by rw [hv]; exact Fn.le
    have RR := (rel_back (cs' := []) (G' := G1) (H' := H1) R1 ar hcs nd ds hn).1
    refine ⟨hv, G1, cs, RR, Fn.mo _ _ _ (fun d e cs' q t p q' G' H' gh R' st two => ?_) q⟩
    obtain ⟨_, own1, back⟩ := rel_back (cs' := cs') (G' := G') (H' := H') R1 ar hcs nd ds hn
    obtain ⟨R2, own2⟩ := back gh R' st
    obtain ⟨o1, hp, op⟩ := two.pd
    obtain ⟨o2, hq, oq⟩ := two.qd
    have np : ¬ Ow σ (putBack ρ1 as cs') p := fun z => R1.old (own2 p z) two.p0
    have R3 := R2.setO (i := x) hp two.pg np op
    have nq : ¬ Ow (σ.set x (some (.ref p))) ((putBack ρ1 as cs').set x (.own d)) q' := fun z => by
      rcases ow_set R2.len z with z | ⟨z, _, _⟩
      · exact R1.old (own2 q' z) two.q0
      · cases z
        exact two.ne rfl
    have R4 := R3.setO (i := y) hq two.qg nq oq
    refine ⟨t, _, rfl, SqT.of two.tup, rfl, _, _, rfl, _, _, rfl, rfl, ?_⟩
    have l2 : Lk m σ G H ρ σ G' H' (putBack ρ1 as cs') := l1.up.trans ⟨st.weak own1, fun p z => .inl (own2 p z), fun _ _ => rfl⟩
    have l3 := l2.setO (i := x) (p := p) (d := d) R2.len hx (l1.st.dom p two.p0)
    have l4 : Lk m σ G H ρ ((σ.set x (some (.ref p))).set y (some (.ref q'))) G' H' (((putBack ρ1 as cs').set x (.own d)).set y (.own e)) := ⟨l3.st, fun z zz => by
      rcases ow_set R3.len zz with u | ⟨u, _, _⟩
      · exact l3.sb z u
      · cases u
        exact .inr (l1.st.dom q' two.q0), fun i hi => (set_ne (by omega)).trans (l3.pn i hi)⟩
    exact fin _ G' H' _ R4 l4 q
  · exact q.elim
end
end Dl

set_option Elab.async false
set_option linter.all false
set_option maxRecDepth 100000
set_option maxHeartbeats 4000000
/-! Dicts of one's own, lent to a call that hands nothing of them back. -/
namespace Dl
open PySem PySem.Spec PyProof.Rows L2 Br
mutual
/-- without a dict within -/
def noD : D → Bool
  | .list ds => noDs ds
  | .tuple _ ds => noDs ds
  | .dict _ => false
  | .exc _ _ _ => false
  | _ => true
def noDs : List D → Bool
  | [] => true
  | d :: ds => noD d && noDs ds
end
/-- what it holds is without a dict within -/
def heldNo : D → Bool
  | .list ds => noDs ds
  | .dict ps => noDs (ps.map (·.2))
  | _ => true
def isDictO : HO → Bool
  | .dK _ => true
  | .dT _ => true
  | _ => false
section
variable {K : PySem.W.Frag} {G G' : Hp}
/-- G' is G without some dicts -/
structure Less (G G' : Hp) : Prop where
  keep : ∀ a o, G a = some o → isDictO o = false → G' a = some o
theorem rd_less (h : Less G G') {a : Addr} {u : HO} (hu : isDictO u = false) (r : Rd G a u) : Rd G' a u := by
  rcases r with r | ⟨o, r⟩
  · exact .inl (h.keep a u r hu)
  · exact .inr ⟨o, h.keep a _ r rfl⟩
theorem sqT_less (h : Less G G') {a : Addr} {xs : List V} (r : SqT K G a xs) : SqT K G' a xs := r.imp (rd_less h rfl) id
theorem sqL_less (h : Less G G') {a : Addr} {xs : List V} (r : SqL K G a xs) : SqL K G' a xs := r.imp (rd_less h rfl) id
mutual
theorem rp_less (h : Less G G') : ∀ {v : V} {d : D}, noD d = true → Rp K G v d → Rp K G' v d
  | _, _, _, .non => .non
  | _, _, _, .bl b => .bl b
  | _, _, _, .int i => .int i
  | _, _, _, .str x => .str x
  | _, _, n, .lst s a => .lst (rd_less h rfl s) (rps_less h n a)
  | _, _, n, .tup s a => .tup (h.keep _ _ s rfl) (rps_less h n a)
  | _, _, n, .tupC s a => .tupC (sqT_less h s) (rps_less h n a)
  | _, _, n, .tupZ s o a => .tupZ (h.keep _ _ s rfl) o (rps_less h n a)
  | _, _, _, .scr s => .scr (sqL_less h s)
  | _, _, _, .fn e => .fn e
  | _, _, n, .exn _ _ => nomatch n
  | _, _, n, .exf _ _ _ _ _ => nomatch n
  | _, _, n, .dK s l a => nomatch n
  | _, _, n, .dT s l a => nomatch n
theorem rps_less (h : Less G G') : ∀ {vs : List V} {ds : List D}, noDs ds = true → RpAll K G vs ds → RpAll K G' vs ds
  | _, _, _, .nil => .nil
  | _, _, n, .cons x r => .cons (rp_less h (Bool.and_eq_true_iff.mp n).1 x) (rps_less h (Bool.and_eq_true_iff.mp n).2 r)
end
theorem snd_zip {α : Type} : ∀ {ks : List D} {ds : List D}, ks.length = ds.length → (ks.zip ds).map (·.2) = ds
  | [], [], _ => rfl
  | [], _ :: _, h => nomatch h
  | _ :: _, [], h => nomatch h
  | k :: ks, d :: ds, h => by
    show d :: (ks.zip ds).map (·.2) = d :: ds
    rw [snd_zip (α := α) (Nat.succ.inj h)]
theorem ob_less (h : Less G G') {o : HO} {d : D} (n : heldNo d = true) (r : ObR K G o d) : ObR K G' o d := by
  cases r with
  | lst a => exact .lst (rps_less h n a)
  | dK l a =>
    refine .dK l (rps_less h ?_ a)
    have : noDs (List.map (fun x => x.2) (List.zip _ _)) = true := n
    rwa [snd_zip (α := Unit) (by rw [List.length_map, l, rps_len a])] at this
  | dT l a =>
    refine .dT l (rps_less h ?_ a)
    have : noDs (List.map (fun x => x.2) (List.zip _ _)) = true := n
    rwa [snd_zip (α := Unit) (by rw [List.length_map, l, rps_len a])] at this
end
/-! ### lending -/
/-- slots of dicts of one's own, frozen for a while -/
def lendC (is : List Nat) (ρ : Cs) : Cs := ρ.mapIdx fun i c => match c with
  | .own d => if i ∈ is then .fro d else .own d
  | c => c
def backC (is : List Nat) (ρ0 ρ : Cs) : Cs := ρ.mapIdx fun i c => if i ∈ is then (match ρ0[i]? with | some (.own d) => .own d | _ => c) else c
def isDict : D → Bool
  | .dict _ => true
  | _ => false
/-- all of the slots that are owned are dicts -/
def lendOk (is : List Nat) (ρ : Cs) : Prop := ∀ i ∈ is, ∀ d, ρ[i]? = some (Cell.own d) → isDict d = true
/-- what is given is as it was, what is owned has no dict within -/
def lentOk (ρ1 ρ2 : Cs) : Prop := (∀ (j : Nat) (d : D), ρ2[j]? = some (Cell.fro d) → ρ1[j]? = some (Cell.fro d)) ∧ ∀ (j : Nat) (d : D), ρ2[j]? = some (Cell.own d) → heldNo d = true
def mLend (is : List Nat) (m : ME) : ME := fun ρ k => lendOk is ρ ∧ m (lendC is ρ) fun d ρ2 => noD d = true ∧ lentOk (lendC is ρ) ρ2 ∧ k d (backC is ρ ρ2)
def mLendF (is : List Nat) (m : ME) : ME := fun ρ k => lendOk is ρ ∧ m (lendC is ρ) fun d ρ2 => heldNo d = true ∧ lentOk (lendC is ρ) ρ2 ∧ k d (backC is ρ ρ2)
section
variable {K : PySem.W.Frag} {X : Cx} {e : Expr} {m : ME}
theorem lend_get {is : List Nat} {ρ : Cs} {j : Nat} {c : Cell} (h : (lendC is ρ)[j]? = some c) : (∃ d, ρ[j]? = some (.own d) ∧ j ∈ is ∧ c = .fro d) ∨ (ρ[j]? = some c ∧ ∀ d, c = .own d → j ∉ is) := by
  unfold lendC at h
  rw [List.getElem?_mapIdx] at h
  cases q : ρ[j]? with
  | none => rw [q] at h; cases h
  | some c0 =>
    rw [q] at h
    have h := Option.some.inj h
    cases c0 with
    | un => exact .inr ⟨by rw [← h], fun d z => by rw [← h] at z; cases z⟩
    | fro d => exact .inr ⟨by rw [← h], fun d z => by rw [← h] at z; cases z⟩
    | own d =>
      by_cases z : j ∈ is
      · exact .inl ⟨d, rfl, z, by rw [← h]; simp [z]⟩
      · refine .inr ⟨by rw [← h]; simp [z], fun _ _ => z⟩
theorem back_get {is : List Nat} {ρ0 ρ : Cs} {j : Nat} {c : Cell} (h : (backC is ρ0 ρ)[j]? = some c) : (∃ d c', ρ0[j]? = some (.own d) ∧ j ∈ is ∧ c = .own d ∧ ρ[j]? = some c') ∨ (ρ[j]? = some c ∧ (j ∈ is → ∀ d, ρ0[j]? ≠ some (.own d))) := by
  unfold backC at h
  rw [List.getElem?_mapIdx] at h
  cases q : ρ[j]? with
  | none => rw [q] at h; cases h
  | some c0 =>
    rw [q] at h
    have h := Option.some.inj h
    by_cases z : j ∈ is
    · simp only [z, if_true] at h
      cases q0 : ρ0[j]? with
      | none => rw [q0] at h; exact .inr ⟨by rw [← h], fun _ d w => by cases w⟩
      | some c1 =>
        rw [q0] at h
        cases c1 with
        | un => exact .inr ⟨by rw [← h], fun _ d w => by cases w⟩
        | fro d1 => exact .inr ⟨by rw [← h], fun _ d w => by cases w⟩
        | own d => exact .inl ⟨d, c0, rfl, z, h.symm, rfl⟩
    · simp only [z, if_false] at h
      exact .inr ⟨by rw [← h], fun w => (z w).elim⟩
/-- the address of what is lent -/
def Lent (is : List Nat) (σ : L2.St) (ρ : Cs) (p : Addr) : Prop := ∃ (i : Nat) (d : D), i ∈ is ∧ ρ[i]? = some (Cell.own d) ∧ σ[i]? = some (some (V.ref p))
/-- G with what is lent -/
noncomputable def plusG (L : Addr → Prop) (G H : Hp) : Hp := fun a => open Classical in if L a then H a else G a
noncomputable def lessG (L : Addr → Prop) (G : Hp) : Hp := fun a => open Classical in if L a then none else G a
theorem plus_in {L : Addr → Prop} {G H : Hp} {a : Addr} (h : L a) : plusG L G H a = H a := if_pos h
theorem plus_out {L : Addr → Prop} {G H : Hp} {a : Addr} (h : ¬ L a) : plusG L G H a = G a := if_neg h
theorem less_in {L : Addr → Prop} {G : Hp} {a : Addr} (h : L a) : lessG L G a = none := if_pos h
theorem less_out {L : Addr → Prop} {G : Hp} {a : Addr} (h : ¬ L a) : lessG L G a = G a := if_neg h
theorem lent_at {is : List Nat} {σ : L2.St} {G H : Hp} {ρ : Cs} (R : Rel K σ G H ρ) (ok : lendOk is ρ) {p : Addr} (h : Lent is σ ρ p) : ∃ o d, H p = some o ∧ G p = none ∧ ObR K G o d ∧ isDictO o = true ∧ Ow σ ρ p := by
  obtain ⟨i, d, h1, h2, h3⟩ := h
  obtain ⟨p', o, e, hp, gp, ob⟩ := R.own i d h2
  rw [h3] at e
  cases e
  refine ⟨o, d, hp, gp, ob, ?_, i, d, h2, h3⟩
  have := ok i h1 d h2
  cases ob with
  | lst _ => cases this
  | dK _ _ => rfl
  | dT _ _ => rfl
theorem rel_lend {is : List Nat} {σ : L2.St} {G H : Hp} {ρ : Cs} (R : Rel K σ G H ρ) (ok : lendOk is ρ) : Rel K σ (plusG (Lent is σ ρ) G H) H (lendC is ρ) ∧ Same G (plusG (Lent is σ ρ) G H) := by
  have sg : Same G (plusG (Lent is σ ρ) G H) := fun a o e => by
    by_cases z : Lent is σ ρ a
    · obtain ⟨o', d, _, gp, _⟩ := lent_at R ok z
      rw [gp] at e; cases e
    · rw [plus_out z]; exact e
  refine ⟨⟨fun a o e => ?_, by unfold lendC; rw [List.length_mapIdx]; exact R.len, fun j d q => ?_, fun j d q => ?_, fun i j p d e h h' s s' => ?_⟩, sg⟩
  · by_cases z : Lent is σ ρ a
    · rwa [plus_in z] at e
    · rw [plus_out z] at e; exact R.gh a o e
  · rcases lend_get q with ⟨d', h1, h2, z⟩ | ⟨h1, _⟩
    · cases z
      obtain ⟨p, o, e, hp, gp, ob⟩ := R.own j d h1
      exact ⟨_, e, ob_rp (ob_same sg ob) (by rw [plus_in ⟨j, d, h2, h1, e⟩]; exact hp)⟩
    · obtain ⟨v, e, r⟩ := R.fro j d h1
      exact ⟨v, e, rp_same sg r⟩
  · rcases lend_get q with ⟨d', _, _, z⟩ | ⟨h1, h2⟩
    · cases z
    · obtain ⟨p, o, e, hp, gp, ob⟩ := R.own j d h1
      refine ⟨p, o, e, hp, ?_, ob_same sg ob⟩
      rw [plus_out]
      · exact gp
      · rintro ⟨i, d', a1, a2, a3⟩
        have := R.apart i j p d' d a2 h1 a3 e
        subst this
        exact h2 d rfl a1
  · rcases lend_get h with ⟨_, _, _, z⟩ | ⟨h1, _⟩
    · cases z
    · rcases lend_get h' with ⟨_, _, _, z⟩ | ⟨h2, _⟩
      · cases z
      · exact R.apart i j p d e h1 h2 s s'
/-- and given back -/
theorem rel_back2 {is : List Nat} {σ : L2.St} {G H G2 H2 : Hp} {ρ ρ2 : Cs} (R : Rel K σ G H ρ) (ok : lendOk is ρ) (R2 : Rel K σ G2 H2 ρ2) (l : Lk 0 σ (plusG (Lent is σ ρ) G H) H (lendC is ρ) σ G2 H2 ρ2) (lk : lentOk (lendC is ρ) ρ2) :
    Rel K σ (lessG (Lent is σ ρ) G2) H2 (backC is ρ ρ2) ∧ Lk 0 σ G H ρ σ (lessG (Lent is σ ρ) G2) H2 (backC is ρ ρ2) ∧ Less G2 (lessG (Lent is σ ρ) G2) := by
  obtain ⟨R1, sg⟩ := rel_lend R ok
  have at2 : ∀ p, Lent is σ ρ p → ∃ o d, G2 p = some o ∧ H2 p = some o ∧ H p = some o ∧ ObR K G o d ∧ isDictO o = true := fun p z => by
    obtain ⟨o, d, hp, gp, ob, di, _⟩ := lent_at R ok z
    have g2 : G2 p = some o := l.st.gg p o (by rw [plus_in z]; exact hp)
    exact ⟨o, d, g2, R2.gh p o g2, hp, ob, di⟩
  have sg3 : Same G (lessG (Lent is σ ρ) G2) := fun a o e => by
    by_cases z : Lent is σ ρ a
    · obtain ⟨_, _, _, gp, _⟩ := lent_at R ok z
      rw [gp] at e; cases e
    · rw [less_out z]; exact l.st.gg a o (sg a o e)
  have le : Less G2 (lessG (Lent is σ ρ) G2) := ⟨fun a o e n => by
    by_cases z : Lent is σ ρ a
    · obtain ⟨o', _, g2, _, _, _, di⟩ := at2 a z
      rw [e] at g2
      cases g2
      rw [n] at di; cases di
    · rw [less_out z]; exact e⟩
  have ow2 : ∀ p, Ow σ (lendC is ρ) p → Ow σ ρ p := by
    rintro p ⟨i, d, h1, h2⟩
    rcases lend_get h1 with ⟨_, _, _, z⟩ | ⟨h3, _⟩
    · cases z
    · exact ⟨i, d, h3, h2⟩
  -- a slot that is owned behind and was not lent
  have other : ∀ (j : Nat) (d : D), ρ2[j]? = some (.own d) → ∃ p o, σ[j]? = some (some (V.ref p)) ∧ H2 p = some o ∧ G2 p = none ∧ ObR K G2 o d ∧ ¬ Lent is σ ρ p := fun j d h => by
    obtain ⟨p, o, e, hp, gp, ob⟩ := R2.own j d h
    refine ⟨p, o, e, hp, gp, ob, fun z => ?_⟩
    obtain ⟨_, _, g2, _⟩ := at2 p z
    rw [gp] at g2; cases g2
  have mine : ∀ (j : Nat) (d : D), (backC is ρ ρ2)[j]? = some (.own d) → (j ∈ is ∧ ρ[j]? = some (.own d)) ∨ ρ2[j]? = some (.own d) := fun j d h => by
    rcases back_get h with ⟨d', _, h1, h2, z, _⟩ | ⟨h1, _⟩
    · cases z; exact .inl ⟨h2, h1⟩
    · exact .inr h1
  refine ⟨⟨fun a o e => ?_, by unfold backC; rw [List.length_mapIdx]; exact R2.len, fun j d q => ?_, fun j d q => ?_, fun i j p d e h h' s s' => ?_⟩, ⟨⟨sg3, fun a o n e => l.st.hh a o (fun z => n (ow2 a z)) e, fun a o n e g t => ?_, l.st.dom⟩, fun p w => ?_, fun _ _ => rfl⟩, le⟩
  · by_cases z : Lent is σ ρ a
    · rw [less_in z] at e; cases e
    · rw [less_out z] at e; exact R2.gh a o e
  · rcases back_get q with ⟨_, _, _, _, z, _⟩ | ⟨h1, h2⟩
    · cases z
    · rcases lend_get (lk.1 j d h1) with ⟨d', a1, a2, z⟩ | ⟨a1, _⟩
      · exact (h2 a2 d' a1).elim
      · obtain ⟨v, e, r⟩ := R.fro j d a1
        exact ⟨v, e, rp_same sg3 r⟩
  · rcases mine j d q with ⟨h1, h2⟩ | h1
    · obtain ⟨p, o, e, hp, gp, ob⟩ := R.own j d h2
      have z : Lent is σ ρ p := ⟨j, d, h1, h2, e⟩
      obtain ⟨o', _, _, hp2, hp1, _, _⟩ := at2 p z
      rw [hp] at hp1
      cases hp1
      exact ⟨p, o, e, hp2, less_in z, ob_same sg3 ob⟩
    · obtain ⟨p, o, e, hp, gp, ob, nl⟩ := other j d h1
      exact ⟨p, o, e, hp, by rw [less_out nl]; exact gp, ob_less le (lk.2 j d h1) ob⟩
  · rcases mine i d h with ⟨a1, a2⟩ | a1
    · rcases mine j e h' with ⟨b1, b2⟩ | b1
      · exact R.apart i j p d e a2 b2 s s'
      · obtain ⟨p', o, e', _, _, _, nl⟩ := other j e b1
        rw [s'] at e'
        cases e'
        exact (nl ⟨i, d, a1, a2, s⟩).elim
    · rcases mine j e h' with ⟨b1, b2⟩ | b1
      · obtain ⟨p', o, e', _, _, _, nl⟩ := other i d a1
        rw [s] at e'
        cases e'
        exact (nl ⟨j, e, b1, b2, s'⟩).elim
      · exact R2.apart i j p d e a1 b1 s s'
  · by_cases z : Lent is σ ρ a
    · exact less_in z
    · rw [less_out z]
      exact l.st.fr a o (fun y => n (ow2 a y)) e (by rw [plus_out z]; exact g) t
  · obtain ⟨j, d, h1, h2⟩ := w
    rcases mine j d h1 with ⟨_, a2⟩ | a1
    · exact .inl ⟨j, d, a2, h2⟩
    · rcases l.sb p ⟨j, d, a1, h2⟩ with z | z
      · exact .inl (ow2 p z)
      · exact .inr z
theorem se_lend {is : List Nat} (h : SE K (fE K) X e m) : SE K (fE K) X e (mLend is m) := by
  refine ⟨fun ρ k k' w q => ⟨q.1, h.mono _ _ _ (fun d ρ2 z => ⟨z.1, z.2.1, w _ _ z.2.2⟩) q.2⟩, pe_weak h.pe fun σ H Q ⟨G, ρ, R, ok, q⟩ => ?_⟩
  refine ⟨_, _, (rel_lend R ok).1, h.mono _ _ _ (fun d ρ2 z v G2 H2 R2 l r => ?_) q⟩
  obtain ⟨R3, l3, le⟩ := rel_back2 R ok R2 l z.2.1
  exact z.2.2 v _ H2 R3 l3 (rp_less le z.1 r)
theorem se_lendF {is : List Nat} (h : SE K (fF K) X e m) : SE K (fF K) X e (mLendF is m) := by
  refine ⟨fun ρ k k' w q => ⟨q.1, h.mono _ _ _ (fun d ρ2 z => ⟨z.1, z.2.1, w _ _ z.2.2⟩) q.2⟩, pe_weak h.pe fun σ H Q ⟨G, ρ, R, ok, q⟩ => ?_⟩
  refine ⟨_, _, (rel_lend R ok).1, h.mono _ _ _ (fun d ρ2 z v G2 H2 R2 l r => ?_) q⟩
  obtain ⟨R3, l3, le⟩ := rel_back2 R ok R2 l z.2.1
  obtain ⟨p, o, ev, h0, nw, hp, gp, ob⟩ := r
  have g3 : lessG (Lent is σ ρ) G2 p = none := by
    by_cases y : Lent is σ ρ p
    · exact less_in y
    · rw [less_out y]; exact gp
  refine z.2.2 v _ H2 R3 l3 ⟨p, o, ev, h0, fun y => ?_, hp, g3, ob_less le z.1 ob⟩
  rcases l3.sb p y with u | u
  · exact R.old u h0
  · obtain ⟨j, d', a1, a2⟩ := y
    rcases back_get a1 with ⟨d2, _, b1, b2, b3, _⟩ | ⟨b1, _⟩
    · exact R.old ⟨j, d2, b1, a2⟩ u
    · exact nw ⟨j, d', b1, a2⟩
end
end Dl

set_option Elab.async false
set_option linter.all false
set_option maxRecDepth 100000
set_option maxHeartbeats 4000000
/-! sorted(d.items()), of a dict from texts to numbers. -/
namespace Dl
open PySem PySem.Spec PyProof.Rows L2 Br
section
variable {prog : Program} {w : World} {A : Around} {E : Value → Shared → Prop} {s : Shared}
/-- sorted(view), the tuples new -/
theorem sorted_view {r d : Addr} {kvs : List (Key × Value)} {ep : Nat} {shape : Nat → Bool} {Q : Value → Shared → Prop} (calm : A.handled = none) (vw : s.heap.IsItemsView r d) (dd : s.heap.DictAt (mixKind prog w) d kvs ep) (few : kvs.length ≤ sizeLine)
    (ht : ∀ (h1 h2 : Heap) (as : List Addr), as.length = kvs.length → PySem.W.KdxG (mixKind prog w) kvs s.heap.objs.size h1 as → (∀ b o, h1.get? b = some o → h2.get? b = some o) → (∃ fs, TupsOf h2 shape (as.map Value.ref) fs) ∧ ∀ v ∈ as.map Value.ref, ∃ x, G.tupKeyC h2 shape v = some x)
    (h : ∀ (h1 h2 : Heap) (tk : Nat) (as : List Addr) (st' : SortSt), (∀ b o, s.heap.get? b = some o → h1.get? b = some o) → as.length = kvs.length → PySem.W.KdxG (mixKind prog w) kvs s.heap.objs.size h1 as → h2 = h1.push (seqObj "list" (as.map Value.ref).toArray 0) →
      (arrOf st').Perm (pairsOf (as.map Value.ref)) → SortedToK (G.tupKindC h2 shape) (arrOf st') (pairsOf (as.map Value.ref)).size → Q (.ref h1.objs.size) { s with heap := sortedHeap h2 h1.objs.size (as.map Value.ref) ((arrOf st').map (·.2)), toks := tk }) :
    wpAny (model prog w) A (call (.builtin "sorted") [.ref r]) Q E s := by
  refine Calls.call_function_entry kind_sorted plain_sorted entry_sorted (args_sorted1 _) ?_
  unfold Builtin.«sorted»
  refine wpAny_bind (m := checkCount "sorted" 1 1 _) (wpAny_pure (wpAny_bind (PySem.W.kdx_collect (A := A.in1) (knd := mixKind prog w) (kvs := kvs) (ep := ep) calm vw dd few fun h1 tk as k1 hl hG => ?_)))
  have lz : (as.map Value.ref).length ≤ sizeLine := by rw [List.length_map, hl]; exact few
  refine wpAny_bind (wpAny_newList ?_ lz)
  have new : (h1.push (seqObj "list" (as.map Value.ref).toArray 0)).get? h1.objs.size = some (seqObj "list" (as.map Value.ref).toArray 0) := Heap.get?_push_size _ rfl
  obtain ⟨⟨fs, hf⟩, hkey⟩ := ht h1 (h1.push (seqObj "list" (as.map Value.ref).toArray 0)) as hl hG fun b o e => Heap.get?_push_of_some _ e
  show wpAny _ _ _ _ _ { s with heap := h1.push (seqObj "list" (as.map Value.ref).toArray 0), toks := tk }
  refine wpAny_bind (wpAny_holding (wpAny_call_entry slot_list_sort ⟨_, new, rfl⟩ entry_list_sort (G.list_sort_tups new hf hkey lz fun st' a1 a2 a3 => ⟨_, rfl, ?r⟩) (args_list_sort _)))
  case r => exact wpAny_pure ⟨_, rfl, h h1 _ tk as st' k1 hl hG rfl a1 a2⟩
end
section
variable {X : Cx} {pins : List (Addr × Obj)} {σ : L2.St} {H : Hp} {s : Shared}
/-- the tuples of a view, tracked -/
theorem tups_laid {h' : Heap} {tk : Nat} {kvs : List (Key × V)} {vs : List (Key × Value)} {as : List Addr} (I : Inv X pins σ H s) (kv : KV kvs vs) (hk : ∀ b o, s.heap.get? b = some o → h'.get? b = some o) (hl : as.length = vs.length) (hG : PySem.W.KdxG (mixKind X.prog X.w) vs s.heap.objs.size h' as) :
    ∃ H' : Hp, (∀ b, b ∉ as → H' b = H b) ∧ (∀ t ∈ as, H t = none) ∧ Paired (fun (t : Addr) (q : Key × V) => H' t = some (.tup [kV q.1, q.2])) as kvs ∧ Inv X pins σ H' { s with heap := h', toks := tk } := by
  have lk : kvs.length = vs.length := Paired.length kv
  have nd : as.Nodup := hG.rise.imp fun {a b} (h : a < b) => Nat.ne_of_lt h
  have new : ∀ t ∈ as, H t = none := fun t ht => I.hok.fresh (Nat.le_of_lt (hG.above t ht))
  have at_ := LiI.putT_at as kvs H (by omega) nd
  have off : ∀ b, b ∉ as → LiI.putT H as kvs b = H b := fun b hb => LiI.putT_off as kvs H hb
  have low : ∀ b o, s.heap.get? b = some o → b ∉ as := fun b o e z => absurd (Heap.lt_size e) (Nat.not_lt.mpr (Nat.le_of_lt (hG.above b z)))
  have kp : ∀ b u, H b = some u → LiI.putT H as kvs b = some u := fun b u e => by
    rw [off b fun z => by rw [new b z] at e; cases e]
    exact e
  refine ⟨LiI.putT H as kvs, off, new, at_, ?_⟩
  refine I.call' (ch := []) rfl ⟨fun b o q _ _ _ => hk b o q, fun b o q _ _ _ => ⟨o.slots, hk b o q⟩, fun b o q n _ => by rw [off b (low b o q)]; exact n, fun b o q _ => ⟨o, hk b o q⟩, fun b xs q => kp b _ q, fun b o u q => kp b _ q, fun b ps q => ⟨#[], by rw [kp b _ q]; simp⟩⟩ (fun b u q => ?_) I.bare fun b z => by simp at z
  by_cases hb : b ∈ as
  · obtain ⟨j, pk, e1, e2, e3⟩ := LiI.paired_ix at_ hb
    rw [e3] at q
    cases q
    obtain ⟨key, k, x, f1, f2, f3⟩ := hG.pairs j b e1
    obtain ⟨qv, g1, g2, g3⟩ := LiI.paired_get kv e2
    rw [f1] at g1
    cases g1
    have rk : RelV (kV pk.1) key := by
      rw [g2]
      exact relV_key (show keyIs k key = true from f2)
    exact ⟨Nat.le_trans (show 2 ≤ 1000 by decide) (show 1000 ≤ sizeLine by decide), [key, x], .cons rk (.cons g3 .nil), ⟨_, f3, rfl, _, rfl⟩⟩
  · rw [off b hb] at q
    exact (I.hok b u q).stay (fun d v _ y => hk d v y) (fun d y => kp d _ y) fun d xs y => kp d _ y
end
/-- the entries as tuples -/
def itm (p : D × D) : D := .tuple .mad [p.1, p.2]
def isKV (p : D × D) : Bool := match p with
  | (.str _, .int _) => true
  | _ => false
def oSortedItems : O1 := fun a k => match a with
  | .dict ps => ps.all isKV = true ∧ ∀ ds' : List D, ds'.Perm (ps.map itm) → ds'.Pairwise (fun x y => ltN (prOf y) (prOf x) = false) → k (.list ds')
  | _ => False
theorem mo_sortedItems : Mo1 oSortedItems := fun a k k' w h => by
  cases a <;> first | exact h.elim | exact ⟨h.1, fun ds' p q => w _ (h.2 ds' p q)⟩
section
variable {K : PySem.W.Frag} {X : Cx} {e : Expr} {ma : ME} {p apos cpos pos : Pos}
/-- a dict from texts to numbers, as it lies -/
theorem kv_dict {G H : Hp} {x : V} {ps : List (D × D)} (g : Same G H) (hx : Vw K G H x (.dict ps)) (hall : ps.all isKV = true) : ∃ (a : Addr) (ns : List (Str × Int)), x = .ref a ∧ (Rd H a (.dK (ns.map fun n => (Sum.inr n.1, V.int n.2))) ∨ (ns = [] ∧ ∃ z, Rd H a (.dT z) ∧ z = [])) ∧ ps = ns.map fun n => (D.str n.1, D.int n.2) := by
  obtain ⟨a, rfl, ⟨ks, xs, ds, rd, hl, ra, rfl⟩ | ⟨ks, xs, ds, rd, hl, ra, rfl⟩⟩ := vw_dict g hx
  · have : ∃ ns : List (Str × Int), ks.zip xs = ns.map (fun n => (Sum.inr n.1, V.int n.2)) ∧ (ks.map keyD).zip ds = ns.map fun n => (D.str n.1, D.int n.2) := by
      clear rd hx
      induction ks generalizing xs ds with
      | nil => exact ⟨[], rfl, rfl⟩
      | cons k ks ih =>
        cases ra with
        | nil => cases hl
        | cons r rs =>
          rename_i v vs d ds
          have h2 : (isKV (keyD k, d) && ((ks.map keyD).zip ds).all isKV) = true := hall
          rw [Bool.and_eq_true] at h2
          obtain ⟨ns, e1, e2⟩ := ih vs ds (Nat.succ.inj hl) rs h2.2
          have h3 := h2.1
          cases k with
          | inl i => cases h3
          | inr z =>
            cases d <;> first | cases h3 | skip
            cases r
            exact ⟨(z, _) :: ns, by rw [List.map_cons, ← e1]; rfl, by
              show (D.str z, D.int _) :: (ks.map keyD).zip ds = _ :: ns.map _
              rw [e2]⟩
    obtain ⟨ns, e1, e2⟩ := this
    exact ⟨a, ns, rfl, .inl (by rw [← e1]; exact rd), e2⟩
  · cases ks with
    | nil => exact ⟨a, [], rfl, .inr ⟨rfl, _, rd, rfl⟩, rfl⟩
    | cons k ks =>
      cases ra with
      | nil => cases hl
      | cons r rs =>
        rename_i v vs d ds
        have h2 : (isKV (.tuple .mad (k.map keyD), d) && _) = true := hall
        rw [Bool.and_eq_true] at h2
        exact absurd h2.1 (by cases d <;> simp [isKV])
/-- the entries, as the heap has them -/
theorem dk_names {H : Hp} {s : Shared} {pins : List (Addr × Obj)} {σ : L2.St} {a : Addr} {ns : List (Str × Int)} (I : Inv X pins σ H s) (h : Rd H a (.dK (ns.map fun n => (Sum.inr n.1, V.int n.2))) ∨ (ns = [] ∧ ∃ z, Rd H a (.dT z) ∧ z = [])) :
    ns.length ≤ sizeLine ∧ (a == sysModules) = false ∧ ∃ vs, KV (ns.map fun n => ((Sum.inr n.1 : Key), V.int n.2)) vs ∧ s.heap.DictOf (mixKind X.prog X.w) a vs := by
  rcases h with h | ⟨rfl, z, h, rfl⟩
  · obtain ⟨l, hs, vs, kv, dof⟩ := dk_rd I.hok h
    rw [List.length_map] at l
    exact ⟨l, hs, vs, kv, dof⟩
  · obtain ⟨hs, dof⟩ := rd0_TK I.hok h
    exact ⟨Nat.zero_le _, hs, [], .nil, dof⟩
theorem kv_at : ∀ {ns : List (Str × Int)} {vs : List (Key × Value)}, KV (ns.map fun n => ((Sum.inr n.1 : Key), V.int n.2)) vs → ∀ (j : Nat) (k : Key) (x : Value), vs[j]? = some (k, x) → ∃ n t, ns[j]? = some n ∧ k = Sum.inr n.1 ∧ x = .int n.2 t
  | [], _, .nil, j, k, x, h => by cases h
  | n :: ns, _, .cons (b := y) r rs, 0, k, x, h => by
    have e : y = (k, x) := Option.some.inj h
    subst e
    obtain ⟨r1, t, r2⟩ := r
    exact ⟨n, t, rfl, r1.symm, r2⟩
  | n :: ns, _, .cons r rs, j + 1, k, x, h => kv_at (ns := ns) rs j k x h
/-- the tuples of the view are names -/
theorem view_names {h1 h2 : Heap} {ns : List (Str × Int)} {vs : List (Key × Value)} {as : List Addr} {lo : Addr} (kv : KV (ns.map fun n => ((Sum.inr n.1 : Key), V.int n.2)) vs) (hl : as.length = vs.length) (hG : PySem.W.KdxG (mixKind X.prog X.w) vs lo h1 as) (k : ∀ b o, h1.get? b = some o → h2.get? b = some o) :
    ∀ (j : Nat) (t : Addr), as[j]? = some t → ∃ n t1 t2, ns[j]? = some n ∧ h2.get? t = some { cls := .type "tuple", data := .seq #[.str n.1 t1, .int n.2 t2] } := fun j t e => by
  obtain ⟨key, kk, x, f1, f2, f3⟩ := hG.pairs j t e
  obtain ⟨n, t2, e1, rfl, rfl⟩ := kv_at kv j kk x f1
  rcases keyIs_shape (show keyIs (Sum.inr n.1) key = true from f2) with ⟨i, t, q, _⟩ | ⟨z, t, q, rfl⟩
  · cases q
  · cases q
    exact ⟨n, t, t2, e1, k _ _ f3⟩
/-- the name that a tuple of the heap is -/
def nmH (h : Heap) : Value → Str × Int
  | .ref t => match h.get? t with
    | some o => match o.data with
      | .seq its _ => match its.toList with
        | [.str z _, .int i _] => (z, i)
        | _ => ("", 0)
      | _ => ("", 0)
    | none => ("", 0)
  | _ => ("", 0)
theorem nmH_at {h : Heap} {t : Addr} {n : Str × Int} {t1 t2 : Tok} (e : h.get? t = some { cls := .type "tuple", data := .seq #[.str n.1 t1, .int n.2 t2] }) : nmH h (.ref t) = n := by
  unfold nmH
  simp only [e]
theorem key_at {h : Heap} {t : Addr} {n : Str × Int} {t1 t2 : Tok} (e : h.get? t = some { cls := .type "tuple", data := .seq #[.str n.1 t1, .int n.2 t2] }) : G.tupKeyC h (fun i => decide (i = 0)) (.ref t) = some (rawKey n) := by
  unfold G.tupKeyC
  have it : G.isTupObj h (.ref t) = true := by
    unfold G.isTupObj
    simp [e]
  rw [if_pos it]
  unfold tupKey
  simp only [e]
  rfl
theorem se_sorted_items (hK : X.K = K) (hc : X.calm = true) (hg : Gl X "sorted") (hm : X.mg "sorted" = none) (ha : SE K (fV K) X e ma) (hbase : attributeBase e "items" X.env (eval e X.env) = eval e X.env := by rfl) (hline : (apos.endLine == cpos.line) = true := by rfl)
    (hse : starEach [Expr.Call (.Attribute e "items" apos) [] [] cpos] X.env = [(false, eval (Expr.Call (.Attribute e "items" apos) [] [] cpos) X.env)] := by rfl) :
    SE K (fF K) X (.Call (.Name "sorted" p) [.Call (.Attribute e "items" apos) [] [] cpos] [] pos) (mUn oSortedItems ma) := by
  subst hK
  refine ⟨mo_un mo_sortedItems ha.mono, ⟨fun pins s σ H Q I hq => ?_⟩⟩
  obtain ⟨G0, ρ, R, q0⟩ := hq
  refine wpAny_Call_Name_kw (ld_blt I hg hm (u := .builtin "sorted") (by first | rfl | decide +kernel) ?_ (by first | decide +kernel | decide) (by first | decide +kernel | decide))
  rw [hse]
  refine PySem.callWith_builtin1 (wpAny_Call_method0_late hbase hline (thn (ha.pe.run pins s σ H (fun v H1 => ∃ G1 ρ1 d, Rel X.K σ G1 H1 ρ1 ∧ Lk 0 σ G0 H ρ σ G1 H1 ρ1 ∧ Vw X.K G1 H1 v d ∧ oSortedItems d fun d' => ∀ v G' H', Rel X.K σ G' H' ρ1 → Lk 0 σ G0 H ρ σ G' H' ρ1 → fF X.K H σ ρ1 G' H' v d' → Q v H') I ⟨G0, ρ, R, ha.mono ρ _ _ (fun d ρ1 q v G1 H1 R1 l1 r1 => ⟨G1, ρ1, d, R1, l1, r1, q⟩) q0⟩) fun v s1 ⟨x, H1, I1, r1, G1, ρ1, d, R1, l1, vw, q⟩ => ?_))
  cases d <;> first | exact q.elim | skip
  rename_i ps
  obtain ⟨hall, q⟩ := q
  obtain ⟨a, ns, rfl, hdk, eps⟩ := kv_dict R1.gh vw hall
  obtain rfl : v = Value.ref a := r1
  obtain ⟨few, hsys, vs, kv, dof⟩ := dk_names I1 hdk
  obtain ⟨ep, dat⟩ := dof.dictAt
  have dat' := dat
  obtain ⟨ob, es, ho, ex, hdat, hko, hpr, hnd⟩ := dat'
  refine ⟨"dict", "dict.items", F.plainAttrs_dict, F.slot_dict_items, F.type_dict_items, ⟨ob, ho, ex.1⟩, fun b e => ?_, Calls.callWith_builtin rfl (PySem.evalArgs_none ?_)⟩
  · cases e
    exact ⟨ob, ho, ex.2.1⟩
  refine call_meetsIn F.slot_dict_items ⟨ob, ho, ex.1⟩ F.entry_dict_items (F.args_dict_items_1 _) (meets_dict_items (mixKind X.prog X.w) a hsys) ⟨⟨vs, dof⟩, ?_⟩
  have I2 : Inv X pins σ H1 { s1 with heap := s1.heap.push { cls := .type "dict_items", data := .fields #[.ref a] } } := I1.kept (t' := s1.toks) fun b ob q => Heap.get?_push_of_some _ q
  have lv : ns.length = vs.length := by have := Paired.length kv; rwa [List.length_map] at this
  let shape : Nat → Bool := fun i => decide (i = 0)
  refine sorted_view (shape := shape) (kvs := vs) (ep := ep) (I1.ok.hd hc) ⟨_, Heap.get?_push_size _ rfl, rfl, rfl⟩ (dat.push _) (by omega) (fun h1 h2 as hl hG k => ?_) fun h1 h2 tk as st' k1 hl hG e2 hp hso => ?_
  · have nm := view_names (X := X) (h2 := h2) kv hl hG k
    have one : ∀ v ∈ as.map Value.ref, ∃ t n t1 t2, v = .ref t ∧ h2.get? t = some { cls := .type "tuple", data := .seq #[.str (n : Str × Int).1 t1, .int n.2 t2] } := fun v hv => by
      obtain ⟨t, ht, rfl⟩ := List.mem_map.mp hv
      obtain ⟨j, hj⟩ := List.mem_iff_getElem?.mp ht
      obtain ⟨n, t1, t2, _, e⟩ := nm j t hj
      exact ⟨t, n, t1, t2, rfl, e⟩
    refine ⟨tups_of fun v hv => ?_, fun v hv => ?_⟩
    · obtain ⟨t, n, t1, t2, rfl, e⟩ := one v hv
      exact ⟨_, t, _, _, _, rfl, e, rfl, rfl, rfl, fun z => (by cases z), fun _ => ⟨_, _, rfl⟩⟩
    · obtain ⟨t, n, t1, t2, rfl, e⟩ := one v hv
      exact ⟨_, key_at e⟩
  · subst e2
    have k2 : ∀ b o, h1.get? b = some o → (h1.push (seqObj "list" (as.map Value.ref).toArray 0)).get? b = some o := fun b o e => Heap.get?_push_of_some _ e
    have nm := view_names (X := X) kv hl hG k2
    obtain ⟨H', off, new, at_, I3⟩ := tups_laid (tk := tk) I2 kv k1 hl hG
    generalize hh2 : h1.push (seqObj "list" (as.map Value.ref).toArray 0) = h2 at nm hso k2
    have zz : (pairsOf (as.map Value.ref)).toList = (as.map Value.ref).zip (as.map Value.ref) := pairsOf_toList _
    have hpl : (arrOf st').toList.Perm ((as.map Value.ref).zip (as.map Value.ref)) := by rw [← zz]; exact hp.toList
    have own : ∀ p ∈ (arrOf st').toList, p.1 = p.2 ∧ p.1 ∈ as.map Value.ref := fun p hm => mem_zip_self (hpl.mem_iff.mp hm)
    have sz : (arrOf st').size = (as.map Value.ref).length := by
      have := hpl.length_eq
      rw [Array.length_toList, List.length_zip] at this
      omega
    have outp : ((arrOf st').toList.map (·.2)).Perm (as.map Value.ref) := by
      have z := hpl.map (·.2)
      rw [List.map_snd_zip (Nat.le_refl _)] at z
      exact z
    have one : ∀ v ∈ as.map Value.ref, ∃ t n t1 t2, v = .ref t ∧ t ∈ as ∧ h2.get? t = some { cls := .type "tuple", data := .seq #[.str (n : Str × Int).1 t1, .int n.2 t2] } := fun v hv => by
      obtain ⟨t, ht, rfl⟩ := List.mem_map.mp hv
      obtain ⟨j, hj⟩ := List.mem_iff_getElem?.mp ht
      obtain ⟨n, t1, t2, _, e⟩ := nm j t hj
      exact ⟨t, n, t1, t2, rfl, ht, e⟩
    have key : ∀ v ∈ as.map Value.ref, G.tupKeyC h2 shape v = some (rawKey (nmH h2 v)) := fun v hv => by
      obtain ⟨t, n, t1, t2, rfl, _, e⟩ := one v hv
      rw [nmH_at e]
      exact key_at e
    -- sorted
    have pw : ((arrOf st').toList.map (·.2)).Pairwise (fun x y => ltN (nmH h2 y) (nmH h2 x) = false) := by
      rw [List.pairwise_iff_getElem]
      intro i j hi hj hij
      have hi' : i < (arrOf st').size := by
        rw [List.length_map, Array.length_toList] at hi
        exact hi
      have hj' : j < (arrOf st').size := by
        rw [List.length_map, Array.length_toList] at hj
        exact hj
      have kk : ∀ n (hn : n < (arrOf st').size), KK (G.tupKindC h2 shape) (arrOf st') n = rawKey (nmH h2 ((arrOf st')[n]).2) := fun n hn => by
        have m : (arrOf st')[n] ∈ (arrOf st').toList := by
          rw [← Array.getElem_toList]
          exact List.getElem_mem _
        obtain ⟨o1, o2⟩ := own _ m
        unfold KK
        rw [Array.getElem?_eq_getElem hn]
        show (G.tupKeyC h2 shape ((arrOf st')[n]).1).getD [] = _
        rw [key _ o2, ← o1]
        rfl
      have z := hso i j (Nat.le_of_lt hij) (by
        have : (pairsOf (as.map Value.ref)).size = (as.map Value.ref).length := by rw [← Array.length_toList, zz, List.length_zip]; omega
        omega)
      rw [kk i hi', kk j hj'] at z
      have z' : (listOrd itemOrd).blt (rawKey (nmH h2 ((arrOf st')[j]).2)) (rawKey (nmH h2 ((arrOf st')[i]).2)) = false := z
      rw [raw_lt] at z'
      simp only [List.getElem_map, Array.getElem_toList]
      exact z'
    have oute : ((arrOf st').map (·.2)).toList = (arrOf st').toList.map (·.2) := Array.toList_map
    generalize (arrOf st').toList.map (·.2) = out at outp pw oute
    have names : as.map (fun t => nmH h2 (.ref t)) = ns := by
      refine List.ext_getElem? fun j => ?_
      rw [List.getElem?_map]
      by_cases hj : j < as.length
      · obtain ⟨n, t1, t2, e1, e2⟩ := nm j _ (List.getElem?_eq_getElem hj)
        rw [List.getElem?_eq_getElem hj, e1]
        show some (nmH h2 (.ref as[j])) = some n
        rw [nmH_at e2]
      · rw [List.getElem?_eq_none (by omega), List.getElem?_eq_none (by omega)]
        rfl
    have h3 : ∀ u ∈ out, ∃ a, u = Value.ref a := fun u hu => by
      obtain ⟨t, n, t1, t2, rfl, _⟩ := one u (outp.mem_iff.mp hu)
      exact ⟨t, rfl⟩
    -- what is laid
    have lenO : out.length = ns.length := by rw [outp.length_eq, List.length_map, hl, lv]
    have atL : h2.get? h1.objs.size = some (seqObj "list" (as.map Value.ref).toArray 0) := by rw [← hh2]; exact Heap.get?_push_size _ rfl
    obtain ⟨ee, hn⟩ := sortedHeap_at (vs := as.map Value.ref) (out := (arrOf st').map (·.2)) atL
    have big : ∀ t ∈ as, t < h1.objs.size := fun t ht => by
      obtain ⟨j, hj⟩ := List.mem_iff_getElem?.mp ht
      obtain ⟨_, _, _, _, _, f3⟩ := hG.pairs j t hj
      exact Heap.lt_size f3
    have nP : h1.objs.size ∉ as := fun z => Nat.lt_irrefl _ (big _ z)
    have fP : H' h1.objs.size = none := I3.hok.fresh (Nat.le_refl _)
    have fP1 : H1 h1.objs.size = none := by rw [← off _ nP]; exact fP
    have kh : ∀ b o, h1.get? b = some o → (sortedHeap h2 h1.objs.size (as.map Value.ref) ((arrOf st').map (·.2))).get? b = some o := fun b o z =>
      (sortedHeap_old (Nat.ne_of_lt (Heap.lt_size z)) (Heap.lt_size (k2 _ _ z))).trans (k2 _ _ z)
    refine ⟨.ref h1.objs.size, upd H' h1.objs.size (.lst (out.map backV)), I3.laid (t' := tk) kh (Nat.le_refl _) ⟨by rw [List.length_map, lenO]; exact few, out, ee, vals_back h3, by rw [hn, ← oute, Array.toArray_toList]⟩, rfl, ?_⟩
    -- by data
    have sg : ∀ b o, H1 b = some o → b ∉ as ∧ b ≠ h1.objs.size := fun b o z => by
      refine ⟨fun y => ?_, fun y => ?_⟩
      · rw [new b y] at z; cases z
      · rw [y, fP1] at z; cases z
    have up : ∀ b o, H1 b = some o → upd H' h1.objs.size (.lst (out.map backV)) b = some o := fun b o z => by
      obtain ⟨y1, y2⟩ := sg b o z
      rw [upd_ne y2, off b y1]
      exact z
    let G' : Hp := fun b => if b ∈ as then H' b else G1 b
    have gin : ∀ b, b ∈ as → G' b = H' b := fun b y => if_pos y
    have gout : ∀ b, b ∉ as → G' b = G1 b := fun b y => if_neg y
    have gh : Same G' (upd H' h1.objs.size (.lst (out.map backV))) := fun b o z => by
      by_cases y : b ∈ as
      · rw [gin b y] at z
        have ne : b ≠ h1.objs.size := fun u => nP (by rw [← u]; exact y)
        rw [upd_ne ne]
        exact z
      · rw [gout b y] at z
        exact up b o (R1.gh b o z)
    have st : Stp Pure G1 H1 G' (upd H' h1.objs.size (.lst (out.map backV))) := ⟨fun b o z => by rw [gout b (sg b o (R1.gh b o z)).1]; exact z, fun b o _ z => up b o z, fun b o _ z g _ => by rw [gout b (sg b o z).1]; exact g, fun b z => by
      cases y : H1 b with
      | none => rfl
      | some o => rw [up b o y] at z; cases z⟩
    have rows : ∀ v ∈ out, Rp X.K G' (backV v) (.tuple .mad [.str (nmH h2 v).1, .int (nmH h2 v).2]) := fun v hv => by
      obtain ⟨t, n, t1, t2, rfl, ht, e⟩ := one v (outp.mem_iff.mp hv)
      obtain ⟨j, pk, e1, e2, e3⟩ := LiI.paired_ix at_ ht
      rw [List.getElem?_map] at e2
      obtain ⟨n', f1, f2⟩ := Option.map_eq_some_iff.mp e2
      obtain ⟨n'', t1', t2', g1, g2⟩ := nm j t e1
      rw [f1] at g1
      cases g1
      rw [nmH_at g2]
      subst f2
      exact .tup (xs := [V.str n'.1, V.int n'.2]) (by rw [gin t ht]; exact e3) (.cons (.str _) (.cons (.int _) .nil))
    have all : RpAll X.K G' (out.map backV) (out.map fun v => D.tuple .mad [.str (nmH h2 v).1, .int (nmH h2 v).2]) := by
      clear pw outp oute h3 lenO gh st up hn
      induction out with
      | nil => exact .nil
      | cons v out ih => exact .cons (rows v List.mem_cons_self) (ih fun u hu => rows u (List.mem_cons_of_mem _ hu))
    refine q (out.map fun v => D.tuple .mad [.str (nmH h2 v).1, .int (nmH h2 v).2]) ?_ ?_ _ G' _ (R1.pure st gh) (l1.trans (.pure st)) ⟨_, _, rfl, l1.st.dom _ fP1, fun z => R1.old z fP1, upd_same, by rw [gout _ nP]; exact R1.gh.free fP1, .lst all⟩
    · have e4 : ps.map itm = (as.map Value.ref).map fun v => D.tuple .mad [.str (nmH h2 v).1, .int (nmH h2 v).2] := by
        rw [eps, ← names, List.map_map, List.map_map, List.map_map]
        rfl
      rw [e4]
      exact outp.map _
    · rw [List.pairwise_map]
      exact pw
end
end Dl

set_option Elab.async false
set_option linter.all false
set_option maxRecDepth 100000
set_option maxHeartbeats 4000000
/-! dict(xs) of a list of pairs whose keys are tuples. -/
namespace Dl
open PySem PySem.Spec PyProof.Rows L2 Br
/-- the pairs that a dict is made of: keys tuples of texts or numbers -/
def tprs : List D → Option (List (List Key × D))
  | [] => some []
  | .tuple _ [.tuple .mad ks, v] :: r => match keysOf ks, tprs r with
    | some q, some rs => some ((q, v) :: rs)
    | _, _ => none
  | _ => none
def mergeT (acc : List (D × D)) (more : List (List Key × D)) : List (D × D) := more.foldl (fun acc kv => putKs acc (.inr kv.1) (.tuple .mad (kv.1.map keyD)) kv.2) acc
def oDict_tpairs : O1 := fun a k => match a with
  | .list ds => match tprs ds with
    | some ps => k (.dict (mergeT [] ps))
    | none => False
  | _ => False
theorem mo_dictT : Mo1 oDict_tpairs := fun a k k' w h => by
  unfold oDict_tpairs at h ⊢
  split at h
  · split at h
    · exact w _ h
    · exact h.elim
  · exact h.elim
/-- a pair as it lies: the tuple, its key, its value -/
structure TPair (K : PySem.W.Frag) (G H : Hp) (v : V) (p : Addr) (kv : List Key × D) (q : Addr × V) : Prop where
  ref : v = .ref p
  sq : SqT K H p [.ref q.1, q.2]
  key : H q.1 = some (.tup (kv.1.map kV))
  val : Rp K G q.2 kv.2
section
variable {K : PySem.W.Frag} {X : Cx} {a : Expr} {ma : ME} {pos : Pos}
theorem kvs_V {G H : Hp} : ∀ {ks : List Key} {ys : List V}, RpAll K G ys (ks.map keyD) → ys = ks.map kV
  | [], _, .nil => rfl
  | k :: ks, _, .cons r rs => by
    rw [List.map_cons, key_val (H := H) (.fro r), kvs_V (H := H) rs]
theorem tprs_V {G H : Hp} (g : Same G H) : ∀ {vs : List V} {ds : List D} {ps : List (List Key × D)}, RpAll K G vs ds → tprs ds = some ps → ∃ (as : List Addr) (qs : List (Addr × V)), as.length = ps.length ∧ qs.length = ps.length ∧ vs = as.map V.ref ∧
    ∀ (j : Nat) (p : Addr) (kv : List Key × D) (q : Addr × V), as[j]? = some p → ps[j]? = some kv → qs[j]? = some q → TPair K G H (.ref p) p kv q
  | _, _, _, .nil, h => by
    cases h
    exact ⟨[], [], rfl, rfl, rfl, fun j p kv q e => nomatch e⟩
  | _, _, _, .cons (d := d) r rs, h => by
    unfold tprs at h
    split at h
    · rename_i e; cases e
    · rename_i c ks v r' e
      cases e
      split at h
      · rename_i q rs' e1 e2
        cases h
        obtain ⟨as, qs, l1, l2, rfl, hh⟩ := tprs_V g rs e2
        have ek := keysOf_inv e1
        subst ek
        obtain ⟨b, ys, rfl, sq, ry, _⟩ := rp_tup r
        obtain ⟨x, y, rfl, r1, r2⟩ := rps2 ry
        obtain ⟨b2, zs, rfl, _, rz, tr⟩ := rp_tup r1
        have ez := kvs_V (H := H) rz
        subst ez
        refine ⟨b :: as, (b2, y) :: qs, by rw [List.length_cons, List.length_cons, l1], by rw [List.length_cons, List.length_cons, l2], rfl, fun j p kv q' x1 x2 x3 => ?_⟩
        cases j with
        | zero =>
          cases x1
          cases x2
          cases x3
          exact ⟨rfl, sqT_same g sq, g _ _ (tr rfl), r2⟩
        | succ j => exact hh j p kv q' x1 x2 x3
      · cases h
    · cases h
def mergeKT (kvs more : List (List Key × V)) : List (List Key × V) := more.foldl (fun acc kv => putK acc kv.1 kv.2) kvs
theorem kt_merge {H : Hp} : ∀ {more : List (List Key × V)} {rs : List (List Key × Addr × Value)} {kvs : List (List Key × V)} {xs : List (List Key × Addr × Value)}, KT H more rs → KT H kvs xs → KT H (mergeKT kvs more) (storedAllH xs rs)
  | [], _, _, _, .nil, h => h
  | p :: more, _, kvs, xs, .cons (b := q) r rs, h => by
    obtain ⟨e, hb, ry⟩ := r
    refine kt_merge (more := more) (kvs := putK kvs p.1 p.2) (xs := storedH xs q.1 q.2.1 q.2.2) rs ?_
    rw [← e]
    exact h.put p.1 hb ry
theorem len_putK {kvs : List (List Key × V)} {k : List Key} {v : V} : (putK kvs k v).length ≤ kvs.length + 1 := by
  unfold putK
  split
  · rw [List.length_map]; omega
  · rw [List.length_append]; exact Nat.le_refl _
theorem len_mergeKT : ∀ {more kvs : List (List Key × V)}, (mergeKT kvs more).length ≤ kvs.length + more.length
  | [], kvs => Nat.le_refl _
  | p :: more, kvs => by
    have h1 := len_mergeKT (more := more) (kvs := putK kvs p.1 p.2)
    have h2 := len_putK (kvs := kvs) (k := p.1) (v := p.2)
    show (mergeKT (putK kvs p.1 p.2) more).length ≤ kvs.length + (more.length + 1)
    omega
theorem mergeT_ob {G : Hp} : ∀ {ps : List (List Key × D)} {qs : List V} {acc : List (List Key × V)} {dcc : List (D × D)}, RpAll K G qs (ps.map (·.2)) → ObR K G (.dT acc) (.dict dcc) → ObR K G (.dT (mergeKT acc ((ps.map (·.1)).zip qs))) (.dict (mergeT dcc ps))
  | [], _, _, _, .nil, o => o
  | (k, d) :: ps, _, acc, dcc, .cons (v := v) r rs, o => by
    refine mergeT_ob (ps := ps) (acc := putK acc k v) (dcc := putKs dcc (.inr k) (.tuple .mad (k.map keyD)) d) rs ?_
    generalize eo : HO.dT acc = ob at o
    generalize ed : D.dict dcc = dd at o
    cases o with
    | lst _ => cases eo
    | dK _ _ => cases eo
    | dT hl ra =>
      cases eo
      cases ed
      exact put_T hl ra r
theorem callr_dictT (hc : X.calm = true) (hu : X.A.units + 65 < cLine) : CallR X (.type "dict") (fun xs H Q => ∃ x, xs = [x] ∧ rO1 X.K (pF X.K) oDict_tpairs x H Q) := by
  intro pins s σ H xs us Q I r h
  obtain ⟨x, rfl, G, d, g, hx, q⟩ := h
  unfold oDict_tpairs at q
  split at q
  · rename_i ds
    split at q
    · rename_i ps e
      obtain ⟨p, vs, rfl, rd, ra⟩ := vw_list g hx
      obtain ⟨as, qs, l1, l2, rfl, each⟩ := tprs_V g ra e
      obtain ⟨u, rfl, ru⟩ := vals1 r
      cases (show u = Value.ref p from ru)
      obtain ⟨its, rv, ⟨ol, n, hol, hcl, hnd, hdat⟩, hz⟩ := I.list (.inl rd)
      have ei := refs_at rv
      subst ei
      rw [List.length_map] at hz
      -- each pair in the heap
      have pr : ∀ j, j < ps.length → ∃ (p b : Addr) (kv : List Key × D) (y : V) (uu : Value), as[j]? = some p ∧ ps[j]? = some kv ∧ qs[j]? = some (b, y) ∧ H b = some (.tup (kv.1.map kV)) ∧ RelV y uu ∧ s.heap.IsTuple p #[.ref b, uu] := fun j hj => by
        have e1 : as[j]? = some as[j] := List.getElem?_eq_getElem (by omega)
        have e2 : ps[j]? = some ps[j] := List.getElem?_eq_getElem hj
        have e3 : qs[j]? = some qs[j] := List.getElem?_eq_getElem (by omega)
        have t := each j _ _ _ e1 e2 e3
        obtain ⟨its2, r2, ht, _⟩ := I.tuple t.sq
        obtain ⟨u1, u2, rfl, ru1, ru2⟩ := vals2 r2
        cases (show u1 = Value.ref qs[j].1 from ru1)
        obtain ⟨o, ho, hc', nn, hd'⟩ := ht
        exact ⟨as[j], qs[j].1, ps[j], qs[j].2, u2, e1, e2, e3, t.key, ru2, o, ho, hc', nn, hd'⟩
      -- their keys and values, as the heap has them
      have ex : ∃ us : List Value, us.length = ps.length ∧ ∀ j, j < ps.length → ∃ (p b : Addr) (kv : List Key × D) (y : V) (uu : Value), us[j]? = some uu ∧ as[j]? = some p ∧ ps[j]? = some kv ∧ qs[j]? = some (b, y) ∧ H b = some (.tup (kv.1.map kV)) ∧ RelV y uu ∧ s.heap.IsTuple p #[.ref b, uu] := by
        have build : ∀ m, m ≤ ps.length → ∃ us : List Value, us.length = m ∧ ∀ j, j < m → ∃ (p b : Addr) (kv : List Key × D) (y : V) (uu : Value), us[j]? = some uu ∧ as[j]? = some p ∧ ps[j]? = some kv ∧ qs[j]? = some (b, y) ∧ H b = some (.tup (kv.1.map kV)) ∧ RelV y uu ∧ s.heap.IsTuple p #[.ref b, uu] := by
          intro m
          induction m with
          | zero => exact fun _ => ⟨[], rfl, fun j h => absurd h (Nat.not_lt_zero _)⟩
          | succ m ih =>
            intro hm
            obtain ⟨us, hl, hu⟩ := ih (by omega)
            obtain ⟨p, b, kv, y, uu, h1, h2, h3, h4, h5, h6⟩ := pr m (by omega)
            refine ⟨us ++ [uu], by rw [List.length_append, hl]; rfl, fun j hj => ?_⟩
            by_cases z : j < m
            · obtain ⟨p, b, kv, y, uu, h0, r⟩ := hu j z
              exact ⟨p, b, kv, y, uu, by rw [List.getElem?_append_left (by omega)]; exact h0, r⟩
            · have : j = m := by omega
              subst this
              exact ⟨p, b, kv, y, uu, by rw [List.getElem?_append_right (by omega), hl]; simp, h1, h2, h3, h4, h5, h6⟩
        exact build _ (Nat.le_refl _)
      obtain ⟨us, lu, each2⟩ := ex
      let hp : List (Value × Value) := (qs.map fun q => Value.ref q.1).zip us
      let ph : List (List Key × Addr × Value) := (ps.map (·.1)).zip ((qs.map (·.1)).zip us)
      have lhp : hp.length = ps.length := by show ((qs.map fun q => Value.ref q.1).zip us).length = _; rw [List.length_zip, List.length_map]; omega
      have lph : ph.length = ps.length := by show ((ps.map (·.1)).zip ((qs.map (·.1)).zip us)).length = _; rw [List.length_zip, List.length_zip, List.length_map, List.length_map]; omega
      have at_ : ∀ j, j < ps.length → ∃ (p b : Addr) (kv : List Key × D) (y : V) (uu : Value), hp[j]? = some (.ref b, uu) ∧ ph[j]? = some (kv.1, b, uu) ∧ as[j]? = some p ∧ ps[j]? = some kv ∧ qs[j]? = some (b, y) ∧ H b = some (.tup (kv.1.map kV)) ∧ RelV y uu ∧ s.heap.IsTuple p #[.ref b, uu] := fun j hj => by
        obtain ⟨p, b, kv, y, uu, h0, h1, h2, h3, h4, h5, h6⟩ := each2 j hj
        refine ⟨p, b, kv, y, uu, ?_, ?_, h1, h2, h3, h4, h5, h6⟩
        · show ((qs.map fun q => Value.ref q.1).zip us)[j]? = _
          rw [List.getElem?_zip_eq_some]
          exact ⟨by rw [List.getElem?_map, h3]; rfl, h0⟩
        · show ((ps.map (·.1)).zip ((qs.map (·.1)).zip us))[j]? = _
          rw [List.getElem?_zip_eq_some]
          refine ⟨by rw [List.getElem?_map, h2]; rfl, ?_⟩
          show ((qs.map (·.1)).zip us)[j]? = _
          rw [List.getElem?_zip_eq_some]
          exact ⟨by rw [List.getElem?_map, h3]; rfl, h0⟩
      have mem : ∀ x ∈ ph, ∃ j, j < ps.length ∧ ph[j]? = some x := fun x hx => by
        obtain ⟨j, hj⟩ := List.mem_iff_getElem?.mp hx
        exact ⟨j, by have := (List.getElem?_eq_some_iff.mp hj).1; omega, hj⟩
      have few : ps.length ≤ sizeLine := by omega
      refine call_dict_pairsH (knd := tupleKind (mixKind X.prog X.w)) (ps := ph) (PairArg.list p (as.map Value.ref).toArray (fun j => as.getD j 0) hp) (I.ok.hd hc) (show X.A.units + 1 + 1 < cLine by omega) ⟨⟨ol, n, hol, hcl, hnd, hdat⟩, by rw [List.size_toArray, List.length_map]; omega, fun j k v hj => ?_⟩ ⟨by omega, fun j k v hj => ?_⟩ (fun h' keep x hx => ?_) (by omega) fun h' tk dd keep => ?_
      · have hlt : j < ps.length := by have := (List.getElem?_eq_some_iff.mp hj).1; omega
        obtain ⟨p', b, kv, y, uu, e1, e2, e3, e4, e5, e6, e7, e8⟩ := at_ j hlt
        rw [e1] at hj
        cases hj
        have eg : as.getD j 0 = p' := by rw [List.getD_eq_getElem?_getD, e3]; rfl
        refine ⟨?_, .inl (by show s.heap.IsTuple (as.getD j 0) _; rw [eg]; exact e8)⟩
        show (as.map Value.ref).toArray[j]? = some (.ref (as.getD j 0))
        rw [eg, List.getElem?_toArray, List.getElem?_map, e3]
        rfl
      · have hlt : j < ps.length := by have := (List.getElem?_eq_some_iff.mp hj).1; omega
        obtain ⟨p', b, kv, y, uu, e1, e2, e3, e4, e5, e6, e7, e8⟩ := at_ j hlt
        have hj' : hp[j]? = some (k, v) := hj
        rw [e1] at hj'
        cases hj'
        exact ⟨_, _, e2, rfl⟩
      · obtain ⟨j, hlt, hj⟩ := mem x hx
        obtain ⟨p', b, kv, y, uu, e1, e2, e3, e4, e5, e6, e7, e8⟩ := at_ j hlt
        rw [e2] at hj
        cases hj
        obtain ⟨o, its2, nn, g1, g2, g3, g4⟩ := key_of I.hok e6
        exact ⟨o, its2, nn, keep b o (Nat.ne_of_lt (Heap.lt_size g1)) (fun z => nomatch z) g1, g2, g3, g4⟩
      · have kt : KT H ((ps.map (·.1)).zip (qs.map (·.2))) ph := by
          have gen : ∀ m, m ≤ ps.length → KT H (((ps.map (·.1)).zip (qs.map (·.2))).take m) (ph.take m) := by
            intro m
            induction m with
            | zero => exact fun _ => .nil
            | succ m ih =>
              intro hm
              obtain ⟨p', b, kv, y, uu, e1, e2, e3, e4, e5, e6, e7, e8⟩ := at_ m (by omega)
              have e9 : ((ps.map (·.1)).zip (qs.map (·.2)))[m]? = some (kv.1, y) := by
                rw [List.getElem?_zip_eq_some]
                exact ⟨by rw [List.getElem?_map, e4]; rfl, by rw [List.getElem?_map, e5]; rfl⟩
              rw [List.take_add_one, List.take_add_one, e9, e2]
              exact Paired.snoc (ih (by omega)) ⟨rfl, e6, e7⟩
          have g := gen ps.length (Nat.le_refl _)
          rwa [List.take_of_length_le (by rw [List.length_zip, List.length_map, List.length_map]; omega), List.take_of_length_le (by omega)] at g
        have big : (s.heap.objs.size == sysModules) = false := beq_eq_false_iff_ne.mpr (Nat.ne_of_gt I.big)
        have len : (mergeKT [] ((ps.map (·.1)).zip (qs.map (·.2)))).length ≤ sizeLine := Nat.le_trans len_mergeKT (by rw [List.length_nil, List.length_zip, List.length_map, List.length_map]; omega)
        obtain ⟨o, es, ep, d1, d2, d3, d4, d5, d6⟩ := dd
        have fr : H s.heap.objs.size = none := I.hok.fresh (Nat.le_refl _)
        have kt2 := (kt_merge kt (.nil : KT H [] [])).keeps (H' := upd H s.heap.objs.size (.dT (mergeKT [] ((ps.map (·.1)).zip (qs.map (·.2)))))) fun b ys z => by rw [upd_ne (ne_of_none z fr)]; exact z
        have vals : RpAll X.K G (qs.map (·.2)) (ps.map (·.2)) := by
          have gen : ∀ m, m ≤ ps.length → RpAll X.K G ((qs.map (·.2)).take m) ((ps.map (·.2)).take m) := by
            intro m
            induction m with
            | zero => exact fun _ => .nil
            | succ m ih =>
              intro hm
              obtain ⟨p', b, kv, y, uu, e1, e2, e3, e4, e5, _⟩ := at_ m (by omega)
              rw [List.take_add_one, List.take_add_one, List.getElem?_map, List.getElem?_map, e4, e5]
              exact rps_app (ih (by omega)) (.cons (each m p' kv (b, y) e3 e4 e5).val .nil)
          have g := gen ps.length (Nat.le_refl _)
          rwa [List.take_of_length_le (by rw [List.length_map]; omega), List.take_of_length_le (by rw [List.length_map]; exact Nat.le_refl _)] at g
        exact ⟨.ref s.heap.objs.size, upd H s.heap.objs.size (.dT (mergeKT [] ((ps.map (·.1)).zip (qs.map (·.2))))), I.laid (t' := tk) (fun b o z => keep b o (fun y => nomatch y) z) (Nat.le_refl _) (show ObjOk X.prog X.w _ _ _ (.dT _) from ⟨len, big, _, kt2, o, es, ep, d1, d2, d3, d4, d6⟩), rfl, newF g q fr (mergeT_ob vals (.dT (ks := []) (xs := []) (ds := []) rfl .nil))⟩
    · exact q.elim
  · exact q.elim
theorem se_dict_tpairs {k : Nat} {p : Pos} (hK : X.K = K) (hc : X.calm = true) (hr : Room k X.A) (hg : Gl X "dict") (hm : X.mg "dict" = none) (ha : SE K (fV K) X a ma) (hs : starEach [a] X.env = [(false, eval a X.env)] := by rfl) (hpl : (backTo pos (starEach [] X.env)).any (·.1) = false := by rfl) :
    SE K (fF K) X (.Call (.Name "dict" p) [a] [] pos) (mUn oDict_tpairs ma) := by
  subst hK
  exact se_t1 (T := "dict") (callr_dictT hc (Room.u65 hr)) (fun y H Q h => ⟨y, rfl, h⟩) mo_dictT embF hg hm (by decide +kernel) ha hs (by decide) (by decide) hpl
end
end Dl

set_option Elab.async false
set_option linter.all false
set_option maxRecDepth 100000
set_option maxHeartbeats 4000000
/-! for v in f(..).values(), of a new dict whose keys are no tuples. -/
namespace Dl
open PySem PySem.Spec PyProof.Rows L2 Br
def dVals : D → Option (List D)
  | .dict ps => if (ps.all fun p => !isTupD p.1) = true then some (ps.map (·.2)) else none
  | _ => none
section
variable {K : PySem.W.Frag} {X : Cx} {e tg : Expr} {m : ME} {apos cpos : Pos}
/-- a new dict, known as it lies from now on -/
theorem pe_lockNew {t : TE} (h : PE X e t) : PE X e (fun σ H Q => t σ H fun x H1 => ∃ a, x = .ref a ∧ ((∃ kvs, H1 a = some (.dK kvs) ∧ (kvs.length ≤ sizeLine → ∀ od, Q x (upd H1 a (.frz od (.dK kvs))))) ∨ (H1 a = some (.dT []) ∧ ∀ od, Q x (upd H1 a (.frz od (.dK [])))))) := by
  refine ⟨fun pins s σ H Q I q => thn (h.run pins s σ H _ I q) fun v s1 ⟨x, H1, I1, rx, a, ex, hq⟩ => ?_⟩
  rcases hq with ⟨kvs, ha, q1⟩ | ⟨ha, q1⟩
  · obtain ⟨od, I2⟩ := I1.lock ha (mut_dic rfl)
    exact ⟨x, _, I2, rx, q1 (dk_of I1.hok ha).1 od⟩
  · obtain ⟨hs, dof⟩ := rd0_TK I1.hok (.inl ha)
    have ob : ∃ u, s1.heap.get? a = some u := by
      obtain ⟨o, _, _, ho, _⟩ := dof
      exact ⟨o, ho⟩
    have I2 : Inv X pins σ (upd H1 a (.dK [])) { s1 with heap := s1.heap, toks := s1.toks } := I1.write (x := a) (e := a) (o := .dK []) (t' := s1.toks) (by rw [ha]; exact mut_dic rfl) (.inl rfl) (fun b u _ z => z) ob ⟨Nat.zero_le _, hs, [], .nil, dof⟩
    obtain ⟨od, I3⟩ := I2.lock (d := a) (upd_same : upd H1 a (.dK []) a = some (.dK [])) (mut_dic rfl)
    have e : upd (upd H1 a (.dK [])) a (.frz od (.dK [])) = upd H1 a (.frz od (.dK [])) := by
      funext b
      by_cases z : b = a
      · subst z; rw [upd_same, upd_same]
      · rw [upd_ne z, upd_ne z, upd_ne z]
    rw [e] at I3
    exact ⟨x, _, I3, rx, q1 od⟩
/-- the walk over its values -/
theorem wk_vals {G : Hp} {a : Addr} {od : Obj} {ks : List Key} {xs : List V} {ds : List D} (hl : ks.length = xs.length) (h : G a = some (.frz od (.dK (ks.zip xs)))) (ra : RpAll K G xs ds) : Wk K (Itd a od (ks.zip xs)) G ds := by
  have ln : (ks.zip xs).length = ds.length := by rw [List.length_zip, hl, Nat.min_self, rps_len ra]
  intro G' H' g gh
  have wk := walk_values (d := a) (o := od) (kvs := ks.zip xs)
  have at_ : H' a = some (.frz od (.dK (ks.zip xs))) := gh _ _ (g _ _ h)
  rw [← ln]
  refine ⟨fun i hi => wk.goes i H' hi at_, wk.stops H' at_, fun i x H3 hi y => ?_⟩
  obtain ⟨rfl, k, e⟩ := wk.yields i H' x H3 hi at_ y
  have ex : xs[i]? = some x := (List.getElem?_zip_eq_some.mp e).2
  obtain ⟨d, e2, r⟩ := rps_get ra ex
  exact ⟨G', d, gh, .refl, e2, rp_same g r⟩
theorem si_values (h : SE K (fF K) X e m) (hbase : attributeBase e "values" X.env (eval e X.env) = eval e X.env := by rfl) (hline : (apos.endLine == cpos.line) = true := by rfl) : SI K X tg (.Call (.Attribute e "values" apos) [] [] cpos) (mItems dVals m) := by
  refine ⟨mo_items h.mono, pi_weak (pi_values (pe_lockNew h.pe) hbase hline) fun σ H R ⟨G, ρ, R0, q⟩ => ⟨G, ρ, R0, h.mono ρ _ _ (fun d ρ1 q v G1 H1 R1 l1 r => ?_) q⟩⟩
  obtain ⟨p, o, rfl, h0, nw, hp, gp, ob⟩ := r
  refine ⟨p, rfl, ?_⟩
  -- the new state
  have go : ∀ (od : Obj) (ks : List Key) (xs : List V) (ds : List D), ks.length = xs.length → RpAll K G1 xs ds → d = .dict ((ks.map keyD).zip ds) → ∃ d o kvs, V.ref p = .ref d ∧ upd H1 p (.frz od (.dK (ks.zip xs))) d = some (.frz o (.dK kvs)) ∧ R (Itd d o kvs) (upd H1 p (.frz od (.dK (ks.zip xs)))) := fun od ks xs ds hl ra ed => by
    subst ed
    refine ⟨p, od, ks.zip xs, rfl, upd_same, ?_⟩
    have sg : Same G1 (upd G1 p (.frz od (.dK (ks.zip xs)))) := same_upd gp
    have nf : (((ks.map keyD).zip ds).all fun p => !isTupD p.1) = true := List.all_eq_true.mpr fun y hy => by
      obtain ⟨k, _, e⟩ := List.mem_map.mp (List.of_mem_zip hy).1
      rw [← e]
      cases k <;> rfl
    have e0 : dVals (.dict ((ks.map keyD).zip ds)) = some (((ks.map keyD).zip ds).map (·.2)) := if_pos nf
    have q' := q
    rw [e0] at q'
    dsimp only at q'
    have R2 : Rel K σ (upd G1 p (.frz od (.dK (ks.zip xs)))) (upd H1 p (.frz od (.dK (ks.zip xs)))) ρ1 := by
      refine ⟨fun b u z => ?_, R1.len, fun i c z => ?_, fun i c z => ?_, R1.apart⟩
      · by_cases y : b = p
        · subst y; rw [upd_same] at z ⊢; exact z
        · rw [upd_ne y] at z ⊢; exact R1.gh b u z
      · obtain ⟨v, hv, r⟩ := R1.fro i c z
        exact ⟨v, hv, rp_same sg r⟩
      · obtain ⟨p', o', hv, hp', gp', ob'⟩ := R1.own i c z
        have ne : p' ≠ p := fun y => by subst y; exact nw ⟨i, c, z, hv⟩
        exact ⟨p', o', hv, (upd_ne ne).trans hp', (upd_ne ne).trans gp', ob_same sg ob'⟩
    have l2 : Lk 0 σ G H ρ σ (upd G1 p (.frz od (.dK (ks.zip xs)))) (upd H1 p (.frz od (.dK (ks.zip xs)))) ρ1 := by
      refine ⟨⟨l1.st.gg.trans sg, fun b u n z => ?_, fun b u n z g t => ?_, fun b z => ?_⟩, l1.sb, fun _ _ => rfl⟩
      · rw [upd_ne (ne_of_none z h0)]; exact l1.st.hh b u n z
      · rw [upd_ne (ne_of_none z h0)]; exact l1.st.fr b u n z g t
      · by_cases y : b = p
        · subst y; exact h0
        · rw [upd_ne y] at z; exact l1.st.dom b z
    have e2 : ((ks.map keyD).zip ds).map (·.2) = ds := snd_zip (α := Unit) (by rw [List.length_map, hl, rps_len ra])
    rw [e2] at q'
    exact q' _ _ _ R2 l2 (wk_vals hl upd_same (rps_same sg ra))
  cases ob with
  | lst _ => exact (show False from q).elim
  | dK hl ra => exact .inl ⟨_, hp, fun _ od => go od _ _ _ hl ra rfl⟩
  | @dT ks xs ds hl ra =>
    cases ks with
    | nil =>
      cases xs with
      | nil =>
        cases ra
        exact .inr ⟨hp, fun od => go od [] [] [] rfl .nil rfl⟩
      | cons _ _ => cases hl
    | cons k ks =>
      cases ra with
      | nil => cases hl
      | cons r rs => exact (show False from q).elim
end
end Dl

set_option Elab.async false
set_option linter.all false
set_option maxRecDepth 100000
set_option maxHeartbeats 4000000
/-! Stars: [*d, ..] over the keys of dicts, f(*t, ..) over a tuple. -/
namespace Dl
open PySem PySem.Spec PyProof.Rows L2 Br
section
variable {K : PySem.W.Frag} {X : Cx} {e e2 : Expr} {es : List Expr} {m : ME} {ma : MA} {mr : MR} {p pos : Pos}
/-- a dict, key by key -/
theorem star_keys {pins : List (Addr × Obj)} {σ : L2.St} {H : Hp} {s : Shared} {a : Addr} {kvs : List (Key × V)} {Ex : Value → Shared → Prop} {Q : List Value → Shared → Prop} (hcalm : X.calm = true) (I : Inv X pins σ H s) (h : Rd H a (.dK kvs) ∨ (kvs = [] ∧ ∃ z, Rd H a (.dT z) ∧ z = []))
    (hQ : ∀ us s', Inv X pins σ H s' → Vals (kvs.map fun kv => kV kv.1) us → Q us s') : PySem.W.StarOf (model X.prog X.w) X.A Ex (.ref a) Q s := by
  have all : kvs.length ≤ sizeLine ∧ (a == sysModules) = false ∧ ∃ vs, KV kvs vs ∧ s.heap.DictOf (mixKind X.prog X.w) a vs := by
    rcases h with h | ⟨rfl, z, h, rfl⟩
    · exact dk_rd I.hok h
    · obtain ⟨hs, dof⟩ := rd0_TK I.hok h
      exact ⟨Nat.zero_le _, hs, [], .nil, dof⟩
  obtain ⟨z, lo, vs, rel, dd⟩ := all
  obtain ⟨ep, hat⟩ := dd.dictAt
  have ek : (vs.map fun p => kV p.1) = kvs.map fun kv => kV kv.1 := by
    have q := congrArg (List.map kV) (KV.keys rel)
    rw [List.map_map, List.map_map] at q
    exact q.symm
  have got : wpAny (model X.prog X.w) X.A (collect (.ref a)) Q Ex s :=
    PySem.W.kdu_collect (PySem.W.kdl_dict (knd := mixKind X.prog X.w) (kvs := vs) (ep := ep) lo) (I.ok.hd hcalm) hat (by have := Paired.length rel; omega) fun h' tk acc hk hacc =>
      hQ acc.toList _ (I.kept (t' := tk) hk) (by
        rw [← ek]
        exact keys_at (by rw [Array.length_toList]; exact hacc.1) fun j v q => hacc.2 j v (by rw [← Array.getElem?_toList]; exact q))
  obtain ⟨ob, _, ho, ex, _⟩ := hat
  unfold PySem.W.StarOf notIterableAtAll
  exact wpAny_bind (wpAny_specialOf (show s.TypeIs (.ref a) "dict" from ⟨ob, ho, ex.1⟩) PySem.F.slot_dict_iter.lookup (wpAny_pure ⟨rfl, got⟩))
def aStarD (m : ME) (ma : MA) : MA := fun ρ k => m ρ fun d ρ1 => match d with
  | .dict ps => (ps.all fun p => !isTupD p.1) = true ∧ ma ρ1 fun ds ρ2 => k (ps.map (·.1) ++ ds) ρ2
  | _ => False
theorem rps_two {G : Hp} : ∀ {vs ws : List V} {ds fs : List D}, RpAll K G vs ds → RpAll K G ws fs → RpAll K G (vs ++ ws) (ds ++ fs)
  | _, _, _, _, .nil, h => h
  | _, _, _, _, .cons r rs, h => .cons r (rps_two rs h)
theorem sa_starD (hK : X.K = K) (hc : X.calm = true) (ha : SE K (fV K) X e m) (hr : SA K X es ma) (hs : starEach (.Starred e p :: es) X.env = (true, eval e X.env) :: starEach es X.env := by rfl) : SA K X (.Starred e p :: es) (aStarD m ma) := by
  subst hK
  constructor
  · intro ρ k k' w
    refine ha.mono ρ _ _ fun d ρ1 h => ?_
    cases d <;> first | exact h.elim | skip
    exact ⟨h.1, hr.mono ρ1 _ _ (fun ds ρ2 => w _ ρ2) h.2⟩
  · refine ⟨fun pos pins s σ H Q I hq => ?_⟩
    obtain ⟨G0, ρ, R, q0⟩ := hq
    refine PySem.W.items_star (thn (ha.pe.run pins s σ H (fun v H1 => ∃ G1 ρ1 d, Rel X.K σ G1 H1 ρ1 ∧ Lk 0 σ G0 H ρ σ G1 H1 ρ1 ∧ Vw X.K G1 H1 v d ∧ (match d with
      | .dict ps => (ps.all fun p => !isTupD p.1) = true ∧ ma ρ1 fun ds ρ2 => ∀ vs G' H', Rel X.K σ G' H' ρ2 → Lk 0 σ G0 H ρ σ G' H' ρ2 → RpAll X.K G' vs (ps.map (·.1) ++ ds) → Q vs H'
      | _ => False)) I ⟨G0, ρ, R, ha.mono ρ _ _ (fun d ρ1 q v G1 H1 R1 l1 r1 => ⟨G1, ρ1, d, R1, l1, r1, q⟩) q0⟩) fun v s1 ⟨x, H1, I1, r1, G1, ρ1, d, R1, l1, vw, q⟩ => ?_) hs
    cases d <;> first | exact q.elim | skip
    rename_i ps
    obtain ⟨flat, q⟩ := q
    have form : ∃ (a : Addr) (kvs : List (Key × V)), x = .ref a ∧ (Rd H1 a (.dK kvs) ∨ (kvs = [] ∧ ∃ z, Rd H1 a (.dT z) ∧ z = [])) ∧ RpAll X.K G1 (kvs.map fun kv => kV kv.1) (ps.map (·.1)) := by
      obtain ⟨a, rfl, ⟨ks, xs, ds, rd, hl, ra, rfl⟩ | ⟨ks, xs, ds, rd, hl, ra, rfl⟩⟩ := vw_dict R1.gh vw
      · have le := rps_len ra
        refine ⟨a, ks.zip xs, rfl, .inl rd, ?_⟩
        rw [show ((ks.map keyD).zip ds).map (·.1) = ks.map keyD from List.map_fst_zip (by simp; omega), zipk hl]
        exact rps_keys ks
      · cases ks with
        | nil => exact ⟨a, [], rfl, .inr ⟨rfl, _, rd, rfl⟩, .nil⟩
        | cons k ks =>
          cases ra with
          | nil => cases hl
          | cons r rs =>
            rename_i v vs d ds
            have h2 : (!isTupD (.tuple .mad (k.map keyD)) && _) = true := flat
            cases h2
    obtain ⟨a, kvs, rfl, hd, rk⟩ := form
    obtain rfl : v = Value.ref a := r1
    refine star_keys hc I1 hd fun us s2 I2 rv => ?_
    exact thn (hr.pa.run pos pins s2 σ H1 _ I2 ⟨G1, ρ1, R1, hr.mono ρ1 _ _ (fun ds ρ2 q vs G2 H2 R2 l2 rs => q _ G2 H2 R2 (l1.trans l2) (rps_two (rps_same l2.st.gg rk) rs)) q⟩) fun ws s3 ⟨vs, H3, I3, r3, q3⟩ => ⟨_ ++ vs, H3, I3, rv.append r3, q3⟩
/-- f(*t, ..) -/
def rStar (m : ME) (mr : MR) : MR := fun ρ k => m ρ fun d ρ1 => match d with
  | .tuple _ ds => mr ρ1 fun as ρ2 => k (ds.map .inr ++ as) ρ2
  | _ => False
theorem arR_two {σ : L2.St} {G : Hp} {ws : List V} {as : List Ar} (h : ArR K σ G ws as) : ∀ {vs : List V} {ds : List D}, RpAll K G vs ds → ArR K σ G (vs ++ ws) (ds.map .inr ++ as)
  | _, _, .nil => h
  | _, _, .cons r rs => .val r (arR_two h rs)
theorem sr_star (hK : X.K = K) (ha : SE K (fE K) X e m) (hr : SR K X es mr) (hs : starEach (.Starred e p :: es) X.env = (true, eval e X.env) :: starEach es X.env := by rfl) : SR K X (.Starred e p :: es) (rStar m mr) := by
  subst hK
  constructor
  · intro ρ k k' w
    refine ha.mono ρ _ _ fun d ρ1 h => ?_
    cases d <;> first | exact h.elim | skip
    exact hr.mono ρ1 _ _ (fun ds ρ2 => w _ ρ2) h
  · refine pa_weak (StX.pa_star ha.pe hr.pa hs) fun σ H Q ⟨G, ρ, R, q⟩ => ⟨G, ρ, R, ha.mono ρ _ _ (fun d ρ1 q v G1 H1 R1 l1 r1 => ?_) q⟩
    cases d <;> first | exact q.elim | skip
    obtain ⟨a, xs, rfl, sq, ra, _⟩ := rp_tup r1
    exact ⟨a, xs, rfl, .inl (sqT_same R1.gh sq), G1, ρ1, R1, hr.mono ρ1 _ _ (fun as ρ2 q vs G2 H2 R2 l2 rs => q _ G2 H2 R2 (l1.trans l2) (arR_two rs (rps_same l2.st.gg ra))) q⟩
end
section
variable {X : Cx} {CX : CXT} {k : Nat} {f : Addr} {fd : FuncData} {ps : List Str} {sp : Sp} {E : XK} {x : Str} {e e2 : Expr} {es : List Expr} {p sp_ pos : Pos} {t : TA}
theorem evalArgs_two {M : Model} {A : Around} {Ex : Value → Shared → Prop} {s : Shared} {g : Value} {y z : Bool × Sem Value} {rest : List (Bool × Sem Value)} {Q : Args → Shared → Prop}
    (h : wpAny M A (spliced (y :: z :: rest)) (fun vs s' => Q ⟨vs, []⟩ s') Ex s) : wpAny M A (evalArgs g true (y :: z :: rest) []) Q Ex s := by
  obtain ⟨b, y⟩ := y
  unfold evalArgs
  cases b
  all_goals
    show wpAny M A (spliced (_ :: z :: rest) >>= _) Q Ex s
    refine wpAny_bind (wpAny_mono h (fun vs s' h' => ?_) fun _ _ x => x)
    refine wpAny_holding ?_
    exact wpAny_bind (wpAny_pure (wpAny_bind (wpAny_pure (wpAny_pure h'))))
theorem pe_callGS (F : FnG X.prog X.w X.K X.mg X.base CX k f fd ps sp) (hG : Bare X.A) (hr : Room k X.A) (hg : Gl X x) (hm : X.mg x = some (.ref f)) (hk : PySem.W.keepIn X.K (.ref f) = true) (hb : Binds X.K fd ps []) (hx : Passes CX X E)
    (ha : PA X (.Starred e sp_ :: e2 :: es) t) (hdb : (x == ("__debug__" : Str)) = false := by decide) (he : starEach (.Starred e sp_ :: e2 :: es) X.env = (true, eval e X.env) :: (false, eval e2 X.env) :: starEach es X.env := by rfl) :
    PE X (.Call (.Name x p) (.Starred e sp_ :: e2 :: es) [] pos) (tCall sp [] E t) := by
  constructor
  intro pins s σ H Q I h
  refine wpAny_Call_Name_kw (ld_glob I hg hm ?_ hdb)
  have run := thn (ha.run pos pins s σ H _ I h) fun us s1 hh => hh
  have h2 : wpAny (model X.prog X.w) X.A (spliced (backTo pos (starEach (.Starred e sp_ :: e2 :: es) X.env))) (fun us s1 => PySem.W.Frag.In X.K s1.heap ∧ wpAny (model X.prog X.w) X.A (call (.ref f) ([] ++ us)) (EP X pins σ Q) X.xe s1) X.xe s :=
    thn (ha.run pos pins s σ H _ I h) fun us s1 hh => by
      obtain ⟨vs, H1, I1, r, q⟩ := hh
      refine ⟨I1.kIn, ?_⟩
      rw [List.append_nil] at q
      have hl : (us ++ []).length = ps.length := by rw [List.append_nil, ← r.length]; exact F.many _ _ _ _ q
      have hbb := hb s1 us I1.kIn hl
      rw [List.append_nil] at hbb
      exact run_g F hG hr hx I1 hbb r q
  rw [he] at h2 ⊢
  exact PySem.W.ks_call rfl (PySem.W.keeps_K hk) (evalArgs_two h2)
end
section
variable {K : PySem.W.Frag} {X : Cx} {a e2 : Expr} {es : List Expr} {mr : MR}
theorem se_callDS {F : Fs} {n k j : Nat} {f : Addr} {fd : FuncData} {ps : List Str} {x : Str} {p sp_ pos : Pos} (Fn : FnD X.prog X.w K X.mg X.base j f fd ps n F) (hK : X.K = K) (hG : Bare X.A) (hr : Room k X.A) (hj : j ≤ k) (hg : Gl X x) (hm : X.mg x = some (.ref f)) (hk : PySem.W.keepIn K (.ref f) = true) (hb : Binds K fd ps []) (ha : SR K X (.Starred a sp_ :: e2 :: es) mr)
    (hdb : (x == ("__debug__" : Str)) = false := by decide) (he : starEach (.Starred a sp_ :: e2 :: es) X.env = (true, eval a X.env) :: (false, eval e2 X.env) :: starEach es X.env := by rfl) : SE K (fE K) X (.Call (.Name x p) (.Starred a sp_ :: e2 :: es) [] pos) (mCall F n mr) := by
  subst hK
  refine ⟨fun ρ k k' w => ha.mono ρ _ _ fun as ρ1 q => ⟨q.1, q.2.1, ?_⟩, pe_weak (pe_callGS (E := fun _ _ _ => False) Fn.ok hG (hr.mono hj) hg hm hk hb pass0 ha.pa hdb he) (t_call ha.mono Fn.mo Fn.ln Fn.le)⟩
  have q := q.2.2
  revert q
  cases cellsOf ρ1 as with
  | none => exact id
  | some cs => exact Fn.mo _ _ _ fun d cs' => w _ _
end
end Dl

set_option Elab.async false
set_option linter.all false
set_option maxRecDepth 100000
set_option maxHeartbeats 4000000
/-! d.pop(k) and d.pop(k, x) as statements, k a text or a number. -/
namespace Dl
open PySem PySem.Spec PyProof.Rows L2 Br
section
variable {K : PySem.W.Frag} {X : Cx}
theorem look_K' {G : Hp} {k : Key} : ∀ {ks : List Key} {xs : List V} {ds : List D}, ks.length = xs.length → RpAll K G xs ds → (∃ v d, valV (ks.zip xs) k = some v ∧ look kOf (.inl k) ((ks.map keyD).zip ds) = some d ∧ Rp K G v d) ∨ (valV (ks.zip xs) k = none ∧ look kOf (.inl k) ((ks.map keyD).zip ds) = none)
  | [], _, _, _, _ => .inr ⟨rfl, rfl⟩
  | q :: ks, _, _, hl, .nil => by cases hl
  | q :: ks, x :: xs, d :: ds, hl, .cons r rs => by
    have ih := look_K' (k := k) (ks := ks) (Nat.succ.inj hl) rs
    have e0 : look kOf (.inl k) (((q :: ks).map keyD).zip (d :: ds)) = if q = k then some d else look kOf (.inl k) ((ks.map keyD).zip ds) := by
      show (if kOf (keyD q) = some (.inl k) then some d else look kOf (.inl k) ((ks.map keyD).zip ds)) = _
      rw [kOf_D]
      by_cases e : q = k
      · rw [if_pos e, if_pos (by rw [e])]
      · rw [if_neg e, if_neg fun z => e (Sum.inl.inj (Option.some.inj z))]
    rw [e0]
    by_cases e : q = k
    · exact .inl ⟨x, d, valV_pos (p := (q, x)) e, if_pos e, r⟩
    · rw [if_neg e, List.zip_cons_cons, valV_neg (p := (q, x)) e]
      exact ih
theorem drop_K {G : Hp} {k : Key} : ∀ {ks : List Key} {xs : List V} {ds : List D}, ks.length = xs.length → RpAll K G xs ds →
    ∃ (qs : List Key) (ys : List V) (es : List D), dropK (ks.zip xs) k = qs.zip ys ∧ qs.length = ys.length ∧ RpAll K G ys es ∧ dropKs ((ks.map keyD).zip ds) (.inl k) = (qs.map keyD).zip es
  | [], xs, ds, hl, r => by
    cases xs with
    | nil => exact ⟨[], [], [], rfl, rfl, .nil, rfl⟩
    | cons _ _ => cases hl
  | q :: ks, _, _, hl, .nil => by cases hl
  | q :: ks, x :: xs, d :: ds, hl, .cons r rs => by
    obtain ⟨qs, ys, es, h1, h2, h3, h4⟩ := drop_K (k := k) (ks := ks) (Nat.succ.inj hl) rs
    unfold dropK at h1
    unfold dropKs at h4
    unfold dropK dropKs
    by_cases z : q = k
    · refine ⟨qs, ys, es, ?_, h2, h3, ?_⟩
      · rw [List.zip_cons_cons, List.filter_cons_of_neg (by simp [z])]
        exact h1
      · rw [List.map_cons, List.zip_cons_cons, List.filter_cons_of_neg (by simp only [kOf_D]; simp [z])]
        exact h4
    · refine ⟨q :: qs, x :: ys, d :: es, ?_, congrArg (· + 1) h2, .cons r h3, ?_⟩
      · rw [List.zip_cons_cons, List.filter_cons_of_pos (by simp [z]), h1]; rfl
      · rw [List.map_cons, List.zip_cons_cons, List.filter_cons_of_pos (by simp only [kOf_D]; simp [z]), h4]; rfl
theorem drop_not {ps : List (D × D)} {k : Key ⊕ List Key} (h : look kOf k ps = none) : dropKs ps k = ps := by
  unfold dropKs
  refine List.filter_eq_self.mpr fun p hp => decide_eq_true fun e => ?_
  induction ps with
  | nil => cases hp
  | cons q ps ih =>
    unfold look at h
    split at h
    · cases h
    · rename_i n
      rcases List.mem_cons.mp hp with rfl | hp
      · exact n e
      · exact ih h hp
/-- what is asked of the values; more: what is told where the key isn't there -/
def rPopF (K : PySem.W.Frag) (x y : V) (more : List V) (H : Hp) (Q : VK) : Prop := ∃ G p ob ps dk k, x = .ref p ∧ Same G H ∧ H p = some ob ∧ G p = none ∧ ObR K G ob (.dict ps) ∧ Rp K G y dk ∧ kOf dk = some (.inl k) ∧ (ps.all fun p => !isTupD p.1) = true ∧ (more = [] → (look kOf (.inl k) ps).isSome = true) ∧
  (∀ v ob', ObR K G ob' (.dict (dropKs ps (.inl k))) → Q v (upd H p ob')) ∧ (dropKs ps (.inl k) = ps → ∀ v, Q v H)
theorem popF_run {pins : List (Addr × Obj)} {σ : L2.St} {H : Hp} {s : Shared} {Q : VK} {x y : V} {u : Value} {p : Addr} {more : List V} {ws : List Value} (I : Inv X pins σ H s) (h : rPopF X.K x y more H Q) (ex : x = .ref p) (ry : RelV y u) (rm : Vals more ws) (hm : more = [] ∨ ∃ z, more = [z]) :
    wpAny (model X.prog X.w) X.A (call (.builtin "dict.pop") (.ref p :: u :: ws)) (EP X pins σ Q) X.xe s := by
  subst ex
  obtain ⟨G, p', ob, ps, dk, k, e, g, hp, gp, ro, rk, ek, flat, there, q, q0⟩ := h
  cases e
  have ed := kOf_inl ek
  subst ed
  have ey : y = kV k := by
    cases k <;> cases rk <;> rfl
  subst ey
  have hw : ws = [] ∨ ∃ x, ws = [x] := by
    rcases hm with rfl | ⟨z, rfl⟩
    · cases rm; exact .inl rfl
    · cases rm with
      | cons _ r => cases r; exact .inr ⟨_, rfl⟩
  cases ro with
  | @dK ks xs ds hl ra =>
    rcases look_K' (k := k) hl ra with ⟨v, d, h1, h2, h3⟩ | ⟨h1, h2⟩
    · obtain ⟨qs, ys, es, e1, e2, e3, e4⟩ := drop_K (k := k) hl ra
      exact d_pop I hp ry h1 hw fun w' s' I' r' => ⟨v, _, I', r', q v _ (by rw [e1, e4]; exact .dK e2 e3)⟩
    · rcases hm with rfl | ⟨z, rfl⟩
      · have := there rfl
        rw [h2] at this
        cases this
      · cases rm with
        | cons r0 r => cases r; exact d_popD I hp ry h1 fun s' I' => ⟨z, H, I', r0, q0 (drop_not h2) z⟩
  | @dT ks xs ds hl ra =>
    have e0 : ks = [] := by
      cases ks with
      | nil => rfl
      | cons k' ks =>
        cases ra with
        | nil => cases hl
        | cons r rs =>
          rename_i v vs d ds
          have h2 : (!isTupD (.tuple .mad (k'.map keyD)) && _) = true := flat
          cases h2
    subst e0
    have x0 : xs = [] := List.eq_nil_of_length_eq_zero hl.symm
    subst x0
    cases ra
    obtain ⟨hd, dd⟩ := rd0_TK I.hok (.inl hp)
    have dd' := dd
    obtain ⟨o, _, _, ho, _⟩ := dd'
    have I2 : Inv X pins σ (upd H p (.dK [])) s := d_write (h' := s.heap) (t' := s.toks) I (by rw [hp]; trivial) ⟨rfl, fun _ _ => rfl⟩ ⟨o, ho⟩ (dk_new (Nat.zero_le _) hd .nil dd)
    rcases hm with rfl | ⟨z, rfl⟩
    · cases there rfl
    · cases rm with
      | cons r0 r => cases r; exact d_popD (kvs := []) I2 upd_same ry rfl fun s' I' => ⟨z, _, I', r0, q z _ (.dK (ks := []) (xs := []) (ds := []) rfl .nil)⟩
def tPopF1 (K : PySem.W.Frag) (td ty : TE) : TE := fun σ H Q => td σ H fun x H1 => (∃ a, x = .ref a ∧ IsD H1 a) ∧ ty σ H1 fun y H2 => rPopF K x y [] H2 Q
def tPopF2 (K : PySem.W.Frag) (td ty tz : TE) : TE := fun σ H Q => td σ H fun x H1 => (∃ a, x = .ref a ∧ IsD H1 a) ∧ ty σ H1 fun y H2 => tz σ H2 fun z H3 => rPopF K x y [z] H3 Q
theorem pe_popF1 {o e : Expr} {apos cpos : Pos} {td ty : TE} (ho : PE X o td) (he : PE X e ty) (m : M1 X o "pop" apos e cpos) : PE X (.Call (.Attribute o "pop" apos) [e] [] cpos) (tPopF1 X.K td ty) := by
  constructor
  intro pins s σ H Q I h
  refine wpAny_Call_method m.base m.few m.line PySem.F.plainAttrs_dict PySem.F.slot_dict_pop PySem.F.type_dict_pop (thn (ho.run pins s σ H _ I h) fun u s1 hh => ?_)
  obtain ⟨x, H1, I1, rx, ⟨p, ex, dd⟩, q1⟩ := hh
  subst ex
  obtain rfl : u = Value.ref p := rx
  obtain ⟨t1, t2, _⟩ := isD_at I1 dd
  refine ⟨t1, t2, ?_⟩
  rw [m.trees]
  refine Calls.callWith_builtin rfl (Calls.evalArgs_plain (Calls.spliced_cons (thn (he.run pins s1 σ H1 _ I1 q1) fun iv s2 hh2 => Calls.spliced_nil ?_)))
  obtain ⟨y, H2, I2, ry, q2⟩ := hh2
  exact popF_run I2 q2 rfl ry .nil (.inl rfl)
theorem pe_popF2 {o e f : Expr} {apos cpos : Pos} {td ty tz : TE} (ho : PE X o td) (he : PE X e ty) (hf : PE X f tz) (m : L2.M2 X o "pop" apos e f cpos) : PE X (.Call (.Attribute o "pop" apos) [e, f] [] cpos) (tPopF2 X.K td ty tz) := by
  constructor
  intro pins s σ H Q I h
  refine wpAny_Call_method m.base m.few m.line PySem.F.plainAttrs_dict PySem.F.slot_dict_pop PySem.F.type_dict_pop (thn (ho.run pins s σ H _ I h) fun u s1 hh => ?_)
  obtain ⟨x, H1, I1, rx, ⟨p, ex, dd⟩, q1⟩ := hh
  subst ex
  obtain rfl : u = Value.ref p := rx
  obtain ⟨t1, t2, _⟩ := isD_at I1 dd
  refine ⟨t1, t2, ?_⟩
  rw [m.trees]
  refine Calls.callWith_builtin rfl (Calls.evalArgs_plain (Calls.spliced_cons (thn (he.run pins s1 σ H1 _ I1 q1) fun iv s2 hh2 => ?_)))
  obtain ⟨y, H2, I2, ry, q2⟩ := hh2
  refine Calls.spliced_cons (thn (hf.run pins s2 σ H2 _ I2 q2) fun fv s3 hh3 => Calls.spliced_nil ?_)
  obtain ⟨z, H3, I3, rz, q3⟩ := hh3
  exact popF_run I3 q3 rfl ry (.cons rz .nil) (.inr ⟨z, rfl⟩)
end
def sDPopF (i : Nat) (mk : ME) (one : Bool) : MS := fun E ρ => mOwn i ρ fun d0 _ => (∃ ps, d0 = .dict ps) ∧ mk ρ fun dk ρ2 => match ρ2[i]? with
  | some (.own (.dict ps)) => match kOf dk with
    | some (.inl k) => (ps.all fun p => !isTupD p.1) = true ∧ (one = true → (look kOf (.inl k) ps).isSome = true) ∧ E.nx (ρ2.set i (.own (.dict (dropKs ps (.inl k)))))
    | _ => False
  | _ => False
section
variable {K : PySem.W.Frag} {X : Cx}
theorem mos_popF {i : Nat} {m : ME} {one : Bool} (h : Mo m) : MoS (sDPopF i m one) := by
  intro ρ E E' w _ _ _
  refine mo_own ρ _ _ fun d0 _ q => ⟨q.1, h ρ _ _ (fun dv ρ2 q => ?_) q.2⟩
  split at q
  · split at q
    · exact ⟨q.1, q.2.1, w _ q.2.2⟩
    · exact q.elim
  · exact q.elim
theorem set_self {ρ : Cs} {i : Nat} {c : Cell} (h : ρ[i]? = some c) : ρ.set i c = ρ := by
  refine List.ext_getElem? fun j => ?_
  by_cases e : i = j
  · subst e
    rw [List.getElem?_set_self (List.getElem?_eq_some_iff.mp h).1, h]
  · rw [List.getElem?_set_ne e]
theorem ss_popF1 {n i : Nat} {o e : Expr} {m : ME} {ap p2 pos : Pos} (hK : X.K = K) (ho : PE X o (tVar i)) (hv : SE K (fE K) X e m) (hm : M1 X o "pop" ap e p2 := by exact ⟨rfl, rfl, rfl, rfl⟩)
    (hsw : swapsWith (.Call (.Attribute o "pop" ap) [e] [] p2) none pos.line X.env = pure false := by rfl) : SS K n X (.Expr (.Call (.Attribute o "pop" ap) [e] [] p2) pos) (sDPopF i m true) := by
  subst hK
  refine ⟨mos_popF hv.mono, ps_weak (ps_expr (pe_popF1 ho hv.pe hm) hsw) fun T σ H ⟨G, ρ, E, R, q, w, _⟩ => ?_⟩
  obtain ⟨x, d0, hx, vx, ⟨ps, rfl⟩, q⟩ := own_there R q
  refine ⟨_, hx, vw_isD R.gh vx, G, ρ, R, hv.mono ρ _ _ (fun dk ρ2 q y G2 H2 R2 l2 ry => ?_) q⟩
  split at q
  · rename_i zs e2
    split at q
    · rename_i kk e3
      obtain ⟨p2, ob, y1, y2, y3, y4⟩ := R2.own i _ e2
      rw [hx] at y1
      cases y1
      refine ⟨G2, p2, ob, zs, dk, kk, rfl, R2.gh, y2, y3, y4, ry, e3, q.1, fun _ => q.2.1 rfl, fun v ob' r => ?_, fun e v => ?_⟩
      · obtain ⟨R3, l3⟩ := Rel.chg (n := n) R2 e2 hx r
        exact w σ G2 _ _ R3 (l2.up.trans l3) q.2.2
      · have z := q.2.2
        rw [e, set_self e2] at z
        exact w σ G2 _ _ R2 l2.up z
    · exact q.elim
  · exact q.elim
theorem ss_popF2 {n i : Nat} {o e : Expr} {m : ME} {ap p2 pos pn : Pos} {jn} (hK : X.K = K) (ho : PE X o (tVar i)) (hv : SE K (fE K) X e m) (hm : L2.M2 X o "pop" ap e (.Constant .none jn pn) p2 := by exact ⟨rfl, rfl, rfl, rfl⟩)
    (hsw : swapsWith (.Call (.Attribute o "pop" ap) [e, .Constant .none jn pn] [] p2) none pos.line X.env = pure false := by rfl) : SS K n X (.Expr (.Call (.Attribute o "pop" ap) [e, .Constant .none jn pn] [] p2) pos) (sDPopF i m false) := by
  subst hK
  refine ⟨mos_popF hv.mono, ps_weak (ps_expr (pe_popF2 ho hv.pe pe_non hm) hsw) fun T σ H ⟨G, ρ, E, R, q, w, _⟩ => ?_⟩
  obtain ⟨x, d0, hx, vx, ⟨ps, rfl⟩, q⟩ := own_there R q
  refine ⟨_, hx, vw_isD R.gh vx, G, ρ, R, hv.mono ρ _ _ (fun dk ρ2 q y G2 H2 R2 l2 ry => ?_) q⟩
  split at q
  · rename_i zs e2
    split at q
    · rename_i kk e3
      obtain ⟨p2, ob, y1, y2, y3, y4⟩ := R2.own i _ e2
      rw [hx] at y1
      cases y1
      refine ⟨G2, p2, ob, zs, dk, kk, rfl, R2.gh, y2, y3, y4, ry, e3, q.1, (fun z => nomatch z), fun v ob' r => ?_, fun e v => ?_⟩
      · obtain ⟨R3, l3⟩ := Rel.chg (n := n) R2 e2 hx r
        exact w σ G2 _ _ R3 (l2.up.trans l3) q.2.2
      · have z := q.2.2
        rw [e, set_self e2] at z
        exact w σ G2 _ _ R2 l2.up z
    · exact q.elim
  · exact q.elim
end
end Dl

set_option Elab.async false
set_option linter.all false
set_option maxRecDepth 100000
set_option maxHeartbeats 4000000
/-! sorted(d), the keys of a dict, all texts. -/
namespace Dl
open PySem PySem.Spec PyProof.Rows L2 Br
def isStrK (p : D × D) : Bool := match p.1 with
  | .str _ => true
  | _ => false
def oSortedKeys : O1 := fun a k => match a with
  | .dict ps => ps ≠ [] ∧ ps.length < 64 ∧ ps.all isStrK = true ∧ ∀ ds' : List D, ds'.Perm (ps.map (·.1)) → k (.list ds')
  | _ => False
theorem mo_sortedKeys : Mo1 oSortedKeys := fun a k k' w h => by
  cases a <;> first | exact h.elim | exact ⟨h.1, h.2.1, h.2.2.1, fun ds' p => w _ (h.2.2.2 ds' p)⟩
section
variable {K : PySem.W.Frag} {X : Cx} {a : Expr} {ma : ME} {pos : Pos}
theorem keys_strs : ∀ {ks : List Key} {ds : List D}, ks.length = ds.length → ((ks.map keyD).zip ds).all isStrK = true → ∃ zs : List Str, ks = zs.map Sum.inr
  | [], _, _, _ => ⟨[], rfl⟩
  | k :: ks, [], hl, _ => by cases hl
  | k :: ks, d :: ds, hl, h => by
    have h2 : (isStrK (keyD k, d) && ((ks.map keyD).zip ds).all isStrK) = true := h
    rw [Bool.and_eq_true] at h2
    obtain ⟨zs, e⟩ := keys_strs (Nat.succ.inj hl) h2.2
    cases k with
    | inl i => cases h2.1
    | inr z => exact ⟨z :: zs, by rw [e]; rfl⟩
theorem callr_sortedK (hcalm : X.calm = true) : CallR X (.builtin "sorted") (fun xs H Q => ∃ x, xs = [x] ∧ rO1 X.K (pF X.K) oSortedKeys x H Q) := by
  intro pins s σ H xs us Q I r h
  obtain ⟨x, rfl, G, d, g, hx, q⟩ := h
  cases d <;> first | exact q.elim | skip
  rename_i ps
  obtain ⟨ne, few, hs, q⟩ := q
  obtain ⟨a, rfl, ⟨ks, xs, ds, rd, hl, ra, rfl⟩ | ⟨ks, xs, ds, rd, hl, ra, rfl⟩⟩ := vw_dict g hx
  · have le := rps_len ra
    obtain ⟨zs, rfl⟩ := keys_strs (by omega) hs
    have e1 : (((zs.map Sum.inr).zip xs).map (·.1) : List Key) = zs.map Sum.inr := List.map_fst_zip (by omega)
    have e2 : (((zs.map (Sum.inr : Str → Key)).map keyD).zip ds).map (·.1) = zs.map D.str := by
      rw [List.map_fst_zip (by simp at hl ⊢; omega), List.map_map]; rfl
    have lz : zs.length < 64 := by
      rw [List.length_zip, List.length_map, List.length_map] at few
      rw [List.length_map] at hl
      omega
    refine call_sortedD hcalm pins s σ H _ us Q I r ⟨a, _, zs, rfl, rd, e1, lz, fun ys p pm so np => newF g (q (ys.map D.str) ?_) np (.lst (rps_strs ys))⟩
    rw [e2]
    exact pm.map _
  · cases ks with
    | nil => exact absurd rfl ne
    | cons k ks =>
      cases ra with
      | nil => cases hl
      | cons r rs =>
        rename_i v vs d ds
        have h2 : (isStrK (.tuple .mad (k.map keyD), d) && _) = true := hs
        cases h2
theorem se_sorted_keys {p : Pos} (hK : X.K = K) (hc : X.calm = true) (hg : Gl X "sorted") (hm : X.mg "sorted" = none) (ha : SE K (fV K) X a ma) (hs : starEach [a] X.env = [(false, eval a X.env)] := by rfl) (hpl : (backTo pos (starEach [] X.env)).any (·.1) = false := by rfl) :
    SE K (fF K) X (.Call (.Name "sorted" p) [a] [] pos) (mUn oSortedKeys ma) := by
  subst hK
  exact se_b1 (id := "sorted") (callr_sortedK hc) (fun y H Q h => ⟨y, rfl, h⟩) mo_sortedKeys embF hg hm (by decide +kernel) ha hs (by decide) (by decide) hpl
end
end Dl

set_option Elab.async false
set_option linter.all false
set_option maxRecDepth 100000
set_option maxHeartbeats 4000000
/-! Walks along a text. -/
namespace Dl
open PySem PySem.Spec PyProof.Rows L2 Br
section
variable {K : PySem.W.Frag} {X : Cx} {e : Expr} {m : ME}
def dStr : D → Option (List D)
  | .str z => some (z.cps.toList.map fun c => .str ⟨#[c]⟩)
  | _ => none
theorem si_str {tg : Expr} (h : SE K (fE K) X e m) (hK : X.K = K) : SI K X tg e (mItems dStr m) := by
  refine ⟨mo_items h.mono, pi_weak (pi_str h.pe) fun σ H Q ⟨G, ρ, R, q⟩ => ⟨G, ρ, R, h.mono ρ _ _ (fun d ρ1 q v G1 H1 R1 l r => ?_) q⟩⟩
  subst hK
  cases d <;> first | exact q.elim | skip
  cases r
  refine ⟨_, rfl, q _ G1 H1 R1 l fun G2 H2 g gh => ?_⟩
  rename_i z
  have W := walk_str (z := z)
  have ln : (z.cps.toList.map fun c => D.str ⟨#[c]⟩).length = z.cps.size := by rw [List.length_map, Array.length_toList]
  refine ⟨fun i hi => W.goes i H2 (by omega) trivial, ln ▸ W.stops H2 trivial, fun i x H3 hi y => ?_⟩
  obtain ⟨rfl, c, hc, rfl⟩ := W.yields i H2 x H3 (by omega) trivial y
  refine ⟨G2, .str ⟨#[c]⟩, gh, .refl, ?_, .str _⟩
  rw [List.getElem?_map, Array.getElem?_toList, hc]; rfl
end
end Dl

set_option Elab.async false
set_option linter.all false
set_option maxRecDepth 100000
set_option maxHeartbeats 4000000
/-! Sets of tuples of ints and texts, few of them. -/
namespace Sn
open PySem PySem.Spec PyProof.Rows L2
/-- a tuple that lies at b and has the parts k -/
abbrev Tu (P : Program) (w : World) (h : Heap) (k : List Key) (b : Addr) : Prop := IsTupleKey (mixKind P w) h k b
abbrev hsh (P : Program) (w : World) (k : List Key) : Int := tupleKeyHash (mixKind P w) k
/-- an int or a text -/
def Lf (v : Value) : Prop := (∃ i t, v = .int i t) ∨ ∃ x t, v = .str x t
section
variable {P : Program} {w : World} {A : Around} {E : Value → Shared → Prop} {s : Shared}
theorem lf_all {k : List Key} {vs : List Value} (h : ItemsAre (mixKind P w) k vs) : ∀ v ∈ vs, Lf v := by
  induction h with
  | nil => exact fun _ z => nomatch z
  | cons h1 _ ih =>
    intro v m
    rcases List.mem_cons.mp m with rfl | m
    · rcases keyIs_shape h1 with ⟨i, t, _, e⟩ | ⟨x, t, _, e⟩
      · exact .inl ⟨i, t, e⟩
      · exact .inr ⟨x, t, e⟩
    · exact ih v m
theorem lf_cls {n : Nat} {v : Value} (h : Lf v) : ofAClassStatement n v = pure false := by
  rcases h with ⟨i, t, rfl⟩ | ⟨x, t, rfl⟩ <;> cases n <;> rfl
theorem lf_val {n : Nat} {v : Value} (h : Lf v) : ∃ b, hashByValue n v = pure b := by
  rcases h with ⟨i, t, rfl⟩ | ⟨x, t, rfl⟩ <;> cases n <;> exact ⟨_, rfl⟩
theorem tu_cls {k : List Key} {b : Addr} {Q : Bool → Shared → Prop} (hk : Tu P w s.heap k b) (q : Q false s) : wpAny (model P w) A (ofAClassStatement 8 (.ref b)) Q E s := by
  have ty := hk.typeIs
  obtain ⟨o, items, n, ho, _, hd, hi⟩ := hk
  have tt : (("tuple" : String) == "tuple") = true := by decide
  have all := lf_all hi
  unfold ofAClassStatement
  refine wpAny_bind (wpAny_typeOf ty ?_)
  simp only [tt, if_true, Bool.not_true, Bool.false_eq_true, if_false, pure_bind]
  refine wpAny_bind (wpAny_seqItems ho hd (wpAny_bind ?_))
  rw [← Array.forIn_toList]
  refine wpAny_forIn_list _ (fun vs r s' => (r.1 = none ∧ s' = s) ∧ ∀ v ∈ vs, Lf v) _ (fun v vs r s' hr => ?_) (fun r s' hr => ?_) _ _ ⟨⟨rfl, rfl⟩, all⟩
  · rw [lf_cls (hr.2 v List.mem_cons_self)]
    exact wpAny_bind (wpAny_pure (wpAny_pure ⟨⟨rfl, hr.1.2⟩, fun u m => hr.2 u (List.mem_cons_of_mem _ m)⟩))
  · obtain ⟨r1, r2⟩ := r
    obtain ⟨⟨hr, rfl⟩, _⟩ := hr
    cases hr
    exact wpAny_pure q
theorem tu_val {k : List Key} {b : Addr} {Q : Bool → Shared → Prop} (hk : Tu P w s.heap k b) (q : ∀ v, Q v s) : wpAny (model P w) A (hashByValue 8 (.ref b)) Q E s := by
  have ty := hk.typeIs
  obtain ⟨o, items, n, ho, _, hd, hi⟩ := hk
  have all := lf_all hi
  unfold hashByValue
  refine wpAny_bind (wpAny_specialOf ty F.slot_tuple_hash.lookup ?_)
  refine wpAny_bind (wpAny_seqItems ho hd (wpAny_bind ?_))
  rw [Option.getD_some, ← Array.forIn_toList]
  refine wpAny_forIn_list _ (fun vs r s' => (r.1 = none ∧ s' = s) ∧ ∀ v ∈ vs, Lf v) _ (fun v vs r s' hr => ?_) (fun r s' hr => ?_) _ _ ⟨⟨rfl, rfl⟩, all⟩
  · obtain ⟨c, e⟩ := lf_val (n := 7) (hr.2 v List.mem_cons_self)
    rw [e]
    refine wpAny_bind (wpAny_pure ?_)
    obtain ⟨⟨_, rfl⟩, h2⟩ := hr
    cases c with
    | false => exact wpAny_pure (wpAny_pure (q false))
    | true => exact wpAny_pure ⟨⟨rfl, rfl⟩, fun u m => h2 u (List.mem_cons_of_mem _ m)⟩
  · obtain ⟨r1, r2⟩ := r
    obtain ⟨⟨hr, rfl⟩, _⟩ := hr
    cases hr
    exact wpAny_pure (q true)
/-- a search among such tuples shows nothing -/
theorem tu_seen {k : List Key} {b : Addr} {Q : Bool → Shared → Prop} (hk : Tu P w s.heap k b) {ys : List Value} (hy : ∀ y ∈ ys, ∃ k' c, y = Value.ref c ∧ Tu P w s.heap k' c) (q : Q false s) : wpAny (model P w) A (searchCouldBeSeen (.ref b) ys) Q E s := by
  unfold searchCouldBeSeen
  refine wpAny_bind (wpAny_forIn_list _ (fun vs r s' => (r.1 = none ∧ s' = s) ∧ ∀ y ∈ vs, ∃ k' c, y = Value.ref c ∧ Tu P w s.heap k' c) _ (fun v vs r s' hr => ?_) (fun r s' hr => ?_) _ _ ⟨⟨rfl, rfl⟩, hy⟩)
  · obtain ⟨⟨_, rfl⟩, h2⟩ := hr
    obtain ⟨k', c, rfl, hc⟩ := h2 v List.mem_cons_self
    have more : ∀ y ∈ vs, ∃ k' c, y = Value.ref c ∧ Tu P w s'.heap k' c := fun u m => h2 u (List.mem_cons_of_mem _ m)
    dsimp only
    refine wpAny_ite ?_
    split
    · exact wpAny_pure ⟨⟨rfl, rfl⟩, more⟩
    · refine wpAny_bind (wpAny_eqIsQuiet_tuple hk ?_)
      simp only [Bool.not_true, Bool.false_eq_true, if_false, pure_bind]
      refine wpAny_bind (wpAny_eqIsQuiet_tuple hc ?_)
      simp only [Bool.not_true, Bool.false_eq_true, if_false, pure_bind]
      refine wpAny_bind (tu_cls hk ?_)
      simp only [Bool.false_eq_true, if_false, pure_bind]
      refine wpAny_bind (tu_cls hc ?_)
      simp only [Bool.false_eq_true, if_false, pure_bind]
      exact wpAny_pure ⟨⟨rfl, rfl⟩, more⟩
  · obtain ⟨r1, r2⟩ := r
    obtain ⟨⟨hr, rfl⟩, _⟩ := hr
    cases hr
    exact wpAny_pure q
/-! ### the table -/
abbrev rw1 (P : Program) (w : World) (p : Addr × List Key) : Int × Value := (hsh P w p.2, .ref p.1)
abbrev hss (P : Program) (w : World) (L : List (Addr × List Key)) : List Int := L.map fun p => hsh P w p.2
structure Tr (P : Program) (w : World) (h : Heap) (a : Addr) (L : List (Addr × List Key)) (es : Array (Int × Value)) (ep : Nat) (t : SetTable) : Prop where
  ob : ∃ o, h.get? a = some o ∧ o.ExactSet ∧ o.data = .set es ep t
  ro : es.toList = L.map (rw1 P w)
  tb : TabOk t (hss P w L)
  nd : (L.map (·.2)).Nodup
  tu : ∀ p ∈ L, Tu P w h p.2 p.1
  ld : w.params.followText "set-order" = true ∨ t.led = true
  rm : L.length * 5 < t.mask * 3
  fw : L.length < 18
variable {a : Addr} {L : List (Addr × List Key)} {es : Array (Int × Value)} {ep : Nat} {t : SetTable}
theorem Tr.sz (S : Tr P w s.heap a L es ep t) : es.size = L.length := by
  have := congrArg List.length S.ro
  rwa [Array.length_toList, List.length_map] at this
theorem Tr.pl (S : Tr P w s.heap a L es ep t) : t.place.toList.length = L.length := by
  have := S.tb.sz
  rwa [List.length_map, ← Array.length_toList] at this
theorem Tr.ft (S : Tr P w s.heap a L es ep t) : t.fits es.size = true := by
  have h1 := S.pl
  have h2 := S.sz
  have h3 := S.rm
  rw [Array.length_toList] at h1
  unfold SetTable.fits SetTable.fill
  rw [S.tb.dm, Bool.and_eq_true, beq_iff_eq, decide_eq_true_eq]
  show t.place.size = es.size ∧ t.place.size + 0 ≤ t.mask
  omega
theorem Tr.at_ (S : Tr P w s.heap a L es ep t) {i : Nat} {p : Addr × List Key} (h : L[i]? = some p) : es[i]? = some (rw1 P w p) := by
  rw [← Array.getElem?_toList, S.ro, List.getElem?_map, h]; rfl
/-- the place of a probe -/
abbrev pr (m : Nat) (h : Int) (c : Nat) : SetTable.Probe := nth m (runAt m (SetTable.bits h % (m + 1)) (SetTable.bits h)) c
theorem pr_on (m : Nat) (h : Int) (c q : Nat) : nth m (pr m h c) q = pr m h (c + q) := (nth_add m c _ q).symm
theorem pr_dm (m : Nat) : ∀ (n : Nat) (p : SetTable.Probe), p.dummy = none → (nth m p n).dummy = none
  | 0, _, h => h
  | n + 1, p, h => pr_dm m n (adv m p) (by unfold adv; split <;> exact h)
theorem tr_find (S : Tr P w s.heap a L es ep t) {x : Addr} {k : List Key} (hx : Tu P w s.heap k x) (hu : A.units < cLine) {K : Nat} (K0 : K < 10 * SetTable.turns t.mask)
    (K1 : way t.mask (hsh P w k) K ∉ t.place.toList) (K2 : ∀ c, c < K → way t.mask (hsh P w k) c ∈ t.place.toList) {Q : SetFound → Shared → Prop}
    (yes : k ∈ L.map (·.2) → Q (.there none) s) (no : k ∉ L.map (·.2) → Q (.free (way t.mask (hsh P w k) K) false) s) :
    ∀ (f c : Nat) (st : Option SetTable.Probe), st.getD (t.probeStart (hsh P w k)) = pr t.mask (hsh P w k) c → c ≤ K → K - c < f →
      (∀ (i : Nat) (p : Addr × List Key), L[i]? = some p → p.2 = k → ∃ c', (c ≤ c' ∧ c' < K) ∧ t.place.toList[i]? = some (way t.mask (hsh P w k) c')) → wpAny (model P w) A (setSearchFrom a (.ref x) (hsh P w k) true f st) Q E s
  | 0, c, st, _, _, hf, _ => absurd hf (Nat.not_lt_zero _)
  | f + 1, c, st, hst, hc, hf, re => by
    obtain ⟨o, oa, ox, od⟩ := S.ob
    have fit := S.ft
    have ngw : t.gaveWay = false := by unfold SetTable.gaveWay; rw [mask_odd S.tb.mok]; rfl
    have e1 : ∀ q, (nth t.mask (pr t.mask (hsh P w k) c) q).j = way t.mask (hsh P w k) (c + q) := fun q => congrArg SetTable.Probe.j (pr_on _ _ _ _)
    have eK : c + (K - c) = K := by omega
    have hat : ∀ (i : Nat) (p : Addr × List Key), L[i]? = some p → (es[i]?.map (·.1)).getD 0 = hsh P w p.2 := fun i p hp => by rw [S.at_ hp]; rfl
    rw [setSearchFrom_succ]
    refine wpAny_bind (wpAny_setState_of oa od fit ?_)
    dsimp only
    rw [ngw]
    simp only [Bool.false_eq_true, if_false, pure_bind]
    rcases go_spec t S.tb.ris S.tb.dm (fun i => (es[i]?.map (·.1)).getD 0) (hsh P w k) (10 * SetTable.turns t.mask) (K - c) (pr t.mask (hsh P w k) c) (pr_dm _ _ _ rfl) (by omega)
      (fun q hq => by rw [e1]; exact K2 _ (by omega)) (by rw [e1, eK]; exact K1) with ⟨q, i, hq, hi, hh, hno, hp⟩ | ⟨hno, hp⟩
    · have hp : t.probe (fun i => (es[i]?.map (·.1)).getD 0) (hsh P w k) (st.getD (t.probeStart (hsh P w k))) = some (.candidate (way t.mask (hsh P w k) (c + q)) i (pr t.mask (hsh P w k) (c + (q + 1)))) := by
        rw [hst, ← e1, ← pr_on]; exact hp
      rw [hp]
      dsimp only
      rw [e1] at hi
      have il : i < L.length := by rw [← S.pl]; exact (List.getElem?_eq_some_iff.mp hi).1
      obtain ⟨p, ep'⟩ : ∃ p, L[i]? = some p := ⟨_, List.getElem?_eq_getElem il⟩
      have pm := List.mem_of_getElem? ep'
      have ptu := S.tu p pm
      have rest : wpAny (model P w) A (searchRest a (.ref x) (hsh P w k) true f es t (way t.mask (hsh P w k) (c + q)) i (pr t.mask (hsh P w k) (c + (q + 1)))) Q E s := by
        unfold searchRest
        rw [S.at_ ep']
        refine wpAny_bind (wpAny_holding (wpAny_eqBool_tuple hu ptu hx (wpAny_bind (wpAny_setState_of oa od fit ?_))))
        dsimp only
        by_cases kk : p.2 = k
        · rw [decide_eq_true kk]
          exact wpAny_pure (yes (List.mem_map.mpr ⟨p, pm, kk⟩))
        · have live : t.slot (way t.mask (hsh P w k) (c + q)) = .live i := slot_live S.tb.ris hi
          rw [decide_eq_false kk]
          simp only [Bool.and_false, Bool.false_eq_true, if_false, pure_bind, sameMem, if_true, live, S.at_ ep']
          refine wpAny_bind (wpAny_isSame_ref_self ?_)
          simp only [if_true]
          refine (tr_find S hx hu K0 K1 K2 yes no f (c + (q + 1)) _ rfl (by omega) (by omega) fun i0 p0 h0 k0 => ?_)
          obtain ⟨c', ⟨a1, a2⟩, a3⟩ := re i0 p0 h0 k0
          refine ⟨c', ⟨Nat.le_of_not_lt fun z => ?_, a2⟩, a3⟩
          by_cases y : c' = c + q
          · subst y
            have s0 := slot_live S.tb.ris a3
            rw [live] at s0
            injection s0 with s0
            subst s0
            rw [ep'] at h0
            cases h0
            exact kk k0
          · exact hno (c' - c) i0 (by omega) (by rw [e1, show c + (c' - c) = c' by omega]; exact a3) ((hat i0 p0 h0).trans (by rw [k0]))
      cases hl : t.led with
      | true => simpa only [Bool.not_true, Bool.false_eq_true, if_false, pure_bind] using rest
      | false =>
        simp only [Bool.not_false, if_true]
        refine wpAny_bind (tu_seen hx (fun y hy => ?_) ?_)
        · obtain ⟨e0, m0, rfl⟩ := List.mem_map.mp hy
          have m1 : e0 ∈ es.toList := by
            have : e0 ∈ es ∧ e0.1 = hsh P w k := by simpa using m0
            exact Array.mem_toList_iff.mpr this.1
          rw [S.ro] at m1
          obtain ⟨p2, h2, rfl⟩ := List.mem_map.mp m1
          exact ⟨p2.2, p2.1, rfl, S.tu p2 h2⟩
        · simp only [Bool.false_eq_true, if_false]
          exact rest
    · have hp : t.probe (fun i => (es[i]?.map (·.1)).getD 0) (hsh P w k) (st.getD (t.probeStart (hsh P w k))) = some (.empty (way t.mask (hsh P w k) K) none) := by
        have := e1 (K - c)
        rw [eK] at this
        rw [hst, ← this]; exact hp
      rw [hp]
      refine wpAny_pure (no fun m => ?_)
      obtain ⟨p0, h0, k0⟩ := List.mem_map.mp m
      obtain ⟨i0, l0, e0⟩ := List.getElem_of_mem h0
      have h00 : L[i0]? = some p0 := by rw [List.getElem?_eq_getElem l0, e0]
      obtain ⟨c', ⟨a1, a2⟩, a3⟩ := re i0 p0 h00 k0
      exact hno (c' - c) i0 (by omega) (by rw [e1, show c + (c' - c) = c' by omega]; exact a3) ((hat i0 p0 h00).trans (by rw [k0]))
/-- the tuples stay when the set alone changes -/
theorem tu_but {h h' : Heap} {k : List Key} {a b : Addr} {o : Obj} {es : Array (Int × Value)} {ep : Nat} {t : SetTable} (z : Tu P w h k b) (oa : h.get? a = some o) (od : o.data = .set es ep t) (sb : Heap.SameBut a h h') : Tu P w h' k b := by
  obtain ⟨o', its, n, e, c, d, i⟩ := z
  refine ⟨o', its, n, (sb.2 b fun q => ?_).trans e, c, d, i⟩
  subst q
  rw [oa] at e
  cases e
  rw [od] at d
  cases d
theorem range_all {α : Type} : ∀ L : List α, (List.range L.length).filterMap (fun i => L[i]?) = L
  | [] => rfl
  | x :: L => by
    rw [List.length_cons, List.range_succ_eq_map]
    show x :: List.filterMap (fun i => (x :: L)[i]?) (List.map Nat.succ (List.range L.length)) = x :: L
    rw [List.filterMap_map]
    exact congrArg (x :: ·) (range_all L)
theorem fm_congr {α β : Type} {f g : α → Option β} : ∀ {l : List α}, (∀ x ∈ l, f x = g x) → l.filterMap f = l.filterMap g
  | [], _ => rfl
  | x :: l, h => by
    have ih := fm_congr (l := l) fun y m => h y (List.mem_cons_of_mem _ m)
    rw [List.filterMap_cons, List.filterMap_cons, h x List.mem_cons_self, ih]
theorem rows_order {L : List (Addr × List Key)} {es : Array (Int × Value)} {order : Array Nat} (ro : es.toList = L.map (rw1 P w)) (pm : order.toList.Perm (List.range L.length)) :
    ∃ L2 : List (Addr × List Key), (order.filterMap (es[·]?)).toList = L2.map (rw1 P w) ∧ L2.Perm L ∧ hss P w L2 = order.toList.map fun i => (es.map (·.1)).getD i 0 := by
  have at_ : ∀ i : Nat, es[i]? = (L[i]?).map (rw1 P w) := fun i => by rw [← Array.getElem?_toList, ro, List.getElem?_map]
  refine ⟨order.toList.filterMap fun i => L[i]?, ?_, ?_, ?_⟩
  · rw [Array.toList_filterMap, List.map_filterMap]
    exact congrArg (fun f => List.filterMap f order.toList) (funext at_)
  · have := pm.filterMap fun i => L[i]?
    rwa [range_all] at this
  · show (order.toList.filterMap fun i => L[i]?).map (fun p => hsh P w p.2) = _
    rw [List.map_filterMap, ← List.filterMap_eq_map]
    refine fm_congr fun i hi => ?_
    have il : i < L.length := List.mem_range.mp (pm.mem_iff.mp hi)
    have e2 : (es.map (·.1))[i]? = some (hsh P w (L[i]).2) := by rw [Array.getElem?_map, at_, List.getElem?_eq_getElem il]; rfl
    show (L[i]?).map _ = some ((es.map (·.1)).getD i 0)
    rw [List.getElem?_eq_getElem il, Array.getD_eq_getD_getElem?, e2]; rfl
theorem tr_relay {o : Obj} (oa : s.heap.get? a = some o) (ox : o.ExactSet) (od : o.data = .set es ep t) (ro : es.toList = L.map (rw1 P w)) (tb : TabOk t (hss P w L)) (nd : (L.map (·.2)).Nodup) (tu : ∀ p ∈ L, Tu P w s.heap p.2 p.1)
    (ld : w.params.followText "set-order" = true ∨ t.led = true) (l5 : L.length = 5) (tm : t.mask = 7) {Q : Unit → Shared → Prop}
    (q : ∀ h' L' es' ep' t', Heap.SameBut a s.heap h' → Tr P w h' a L' es' ep' t' → L'.Perm L → Q () { s with heap := h' }) : wpAny (model P w) A (setRelay a (SetTable.grown 5)) Q E s := by
  have sz : es.size = 5 := by
    have := congrArg List.length ro
    rwa [Array.length_toList, List.length_map, l5] at this
  have psz : t.place.size = 5 := by
    have := tb.sz
    rwa [List.length_map, l5] at this
  have fit : t.fits es.size = true := by
    unfold SetTable.fits SetTable.fill
    rw [tb.dm, Bool.and_eq_true, beq_iff_eq, decide_eq_true_eq]
    show t.place.size = es.size ∧ t.place.size + 0 ≤ t.mask
    omega
  obtain ⟨t', order, e, pm, T, em, el, _, _⟩ := relaid_ok t (hs := es.map (·.1)) (wanted := SetTable.grown 5) (M := 31) (by rw [size_20]) (.inr (.inl rfl)) (by rw [Array.size_map, sz]; decide)
  rw [Array.size_map, sz, ← l5] at pm
  obtain ⟨L2, r1, r2, r3⟩ := rows_order ro pm
  rw [← r3] at T
  have sz2 : (order.filterMap (es[·]?)).size = es.size := by
    have := congrArg List.length r1
    rw [Array.length_toList, List.length_map, r2.length_eq, l5] at this
    rw [this, sz]
  rw [setRelay_eq]
  refine wpAny_bind (wpAny_setState_of oa od fit ?_)
  dsimp only
  rw [if_neg (by rw [size_20, sizeLine_eq]; decide)]
  rw [e]
  dsimp only
  rw [if_neg (by rw [sz2]; simp)]
  simp only [pure_bind]
  refine wpAny_storeSet_of oa od ?_ (by rw [sz2, sz, sizeLine_eq]; decide)
  have sb : Heap.SameBut a s.heap (s.heap.update a (Obj.putSet (order.filterMap (es[·]?)) t')) := Heap.SameBut.update ..
  refine q _ L2 _ (ep + 1) t' sb ⟨⟨_, store_at oa od, ⟨ox.1, ox.2.1, ox.2.2⟩, rfl⟩, r1, T, ?_, fun p m => tu_but (tu p (r2.mem_iff.mp m)) oa od sb, by rw [el]; exact ld, ?_, ?_⟩ r2
  · exact (r2.map (·.2)).nodup_iff.mpr nd
  · rw [r2.length_eq, l5, em]; decide
  · rw [r2.length_eq, l5]; decide
theorem tab_plain {t : SetTable} {hs : List Int} (T : TabOk t hs) (b : Bool) : TabOk { t with plain := b } hs := ⟨T.ris, T.dm, T.sz, T.mok, T.bd, T.reach⟩
/-- a tuple is added -/
theorem tr_add (S : Tr P w s.heap a L es ep t) {x : Addr} {k : List Key} (hx : Tu P w s.heap k x) (hu : A.units < cLine) (few : L.length + 1 < 18) {Q : Bool → Shared → Prop}
    (q : ∀ b h' L' es' ep' t', Heap.SameBut a s.heap h' → Tr P w h' a L' es' ep' t' → ((k ∈ L.map (·.2) ∧ L' = L) ∨ (k ∉ L.map (·.2) ∧ L'.Perm ((x, k) :: L))) → Q b { s with heap := h' }) :
    wpAny (model P w) A (setAddHashed a (.ref x) (hsh P w k)) Q E s := by
  obtain ⟨o, oa, ox, od⟩ := S.ob
  have fit := S.ft
  have sz := S.sz
  have pl := S.pl
  have rm := S.rm
  have bs : byScan (.ref x) es = false := by simp [byScan, Value.scannable]
  obtain ⟨K, K0, K1, K2⟩ := S.tb.first (by rw [List.length_map]; omega) (hsh P w k)
  have big : K < 100000 := by
    have : 10 * SetTable.turns t.mask ≤ 1420 := by
      unfold SetTable.turns
      rcases S.tb.mok with e | e | e <;> omega
    omega
  unfold setAddHashed
  refine wpAny_holding ?_
  rw [show (100000 : Nat) = 99999 + 1 from rfl, setAddHashedIn_succ]
  refine wpAny_bind (wpAny_setState_of oa od fit ?_)
  dsimp only
  rw [bs]
  simp only [Bool.false_eq_true, if_false, pure_bind]
  refine wpAny_bind ?_
  unfold setSearch
  refine tr_find S hx hu K0 K1 K2 (fun m => ?_) (fun nm => ?_) 100000 0 none rfl (Nat.zero_le _) (by omega) fun i p hp kp => ?_
  · exact wpAny_pure (q false s.heap L es ep t (Heap.SameBut.refl a s.heap) S (.inl ⟨m, rfl⟩))
  · dsimp only
    refine wpAny_bind (wpAny_setState_of oa od fit ?_)
    dsimp only
    obtain ⟨q1, q2, q3, q4, q5, q6, _, _, q9⟩ := S.tb.put K1 K2
    generalize hpt : t.put (way t.mask (hsh P w k) K) = pt at q1 q3 q4 q5 q6 q9 ⊢
    obtain ⟨t1, p⟩ := pt
    dsimp only at q1 q3 q4 q5 q6 q9 ⊢
    subst q1
    generalize SetTable.below t.place (way t.mask (hsh P w k) K) = p at q2 q3 ⊢
    have pm : (L.take p ++ (x, k) :: L.drop p).Perm ((x, k) :: L) := by
      have := List.perm_middle (a := (x, k)) (l₁ := L.take p) (l₂ := L.drop p)
      rwa [List.take_append_drop] at this
    have ins : (SetTable.insertAt es p (hsh P w k, Value.ref x)).toList = (L.take p ++ (x, k) :: L.drop p).map (rw1 P w) := by
      rw [SetTable.toList_insertAt, S.ro, List.map_append, List.map_cons, List.map_take, List.map_drop]
    have hh : (hss P w L).take p ++ hsh P w k :: (hss P w L).drop p = hss P w (L.take p ++ (x, k) :: L.drop p) := by
      unfold hss
      rw [List.map_append, List.map_cons, List.map_take, List.map_drop]
    rw [hh] at q3
    have ln : (L.take p ++ (x, k) :: L.drop p).length = L.length + 1 := pm.length_eq
    have nd1 : ((L.take p ++ (x, k) :: L.drop p).map (·.2)).Nodup := (pm.map (·.2)).nodup_iff.mpr (List.nodup_cons.mpr ⟨nm, S.nd⟩)
    generalize L.take p ++ (x, k) :: L.drop p = L1 at pm ins q3 ln nd1
    generalize SetTable.insertAt es p (hsh P w k, Value.ref x) = es1 at ins ⊢
    have sz1 : es1.size = L.length + 1 := by
      have := congrArg List.length ins
      rwa [Array.length_toList, List.length_map, ln] at this
    -- whatever is known of how it hashes
    have go : ∀ b : Bool, wpAny (model P w) A (do
        storeSet a es1 (if b = true then t1 else { t1 with plain := false })
        if (!false && (if b = true then t1 else { t1 with plain := false }).tooFull) = true then
          setRelay a (SetTable.grown (es.size + 1))
        return true) Q E s := fun b => by
      have T2 : TabOk (if b = true then t1 else { t1 with plain := false }) (hss P w L1) := by
        cases b
        · exact tab_plain q3 false
        · exact q3
      have m2 : (if b = true then t1 else { t1 with plain := false }).mask = t.mask := by cases b <;> exact q4
      have l2 : (if b = true then t1 else { t1 with plain := false }).led = t.led := by cases b <;> exact q5
      have f2 : (if b = true then t1 else { t1 with plain := false }).fill = L.length + 1 := by
        rw [List.length_map] at q9
        cases b <;> exact q9
      generalize (if b = true then t1 else { t1 with plain := false }) = t2 at T2 m2 l2 f2 ⊢
      have ld2 : w.params.followText "set-order" = true ∨ t2.led = true := by rw [l2]; exact S.ld
      refine wpAny_bind (wpAny_storeSet_of oa od ?_ (by rw [sz1, sizeLine_eq]; omega))
      have sb : Heap.SameBut a s.heap (s.heap.update a (Obj.putSet es1 t2)) := Heap.SameBut.update ..
      have oa1 := store_at (es' := es1) (t' := t2) oa od
      generalize s.heap.update a (Obj.putSet es1 t2) = h1 at sb oa1 ⊢
      have tu1 : ∀ p ∈ L1, Tu P w h1 p.2 p.1 := fun p m => by
        rcases List.mem_cons.mp (pm.mem_iff.mp m) with e | m
        · subst e; exact tu_but hx oa od sb
        · exact tu_but (S.tu p m) oa od sb
      have tf : t2.tooFull = decide ((L.length + 1) * 5 ≥ t2.mask * 3) := by
        unfold SetTable.tooFull
        rw [f2]
      rw [tf, sz]
      by_cases full : (L.length + 1) * 5 ≥ t2.mask * 3
      · have c2 : t.mask = 7 ∧ L.length = 4 := by
          rw [m2] at full
          rcases S.tb.mok with e | e | e <;> rw [e] at rm full <;> first | exact ⟨e, by omega⟩ | (exfalso; omega)
        rw [decide_eq_true full]
        simp only [Bool.not_false, Bool.and_self, if_true]
        rw [c2.2]
        refine wpAny_bind (tr_relay (s := { s with heap := h1 }) oa1 ⟨ox.1, ox.2.1, ox.2.2⟩ rfl ins T2 nd1 tu1 ld2 (by rw [ln, c2.2]) (by rw [m2, c2.1]) fun h2 L2 es2 ep2 t3 sb2 S2 p2 => ?_)
        exact wpAny_pure (q true h2 L2 es2 ep2 t3 (sb.trans sb2) S2 (.inr ⟨nm, p2.trans pm⟩))
      · rw [decide_eq_false full]
        simp only [Bool.and_false, Bool.false_eq_true, if_false, pure_bind]
        exact wpAny_pure (q true h1 L1 es1 (ep + 1) t2 sb ⟨⟨_, oa1, ⟨ox.1, ox.2.1, ox.2.2⟩, rfl⟩, ins, T2, nd1, tu1, ld2, by rw [ln]; omega, by rw [ln]; exact few⟩ (.inr ⟨nm, pm⟩))
    cases hp1 : t1.plain with
    | true =>
      simp only [if_true]
      exact wpAny_bind (tu_val hx fun b => go b)
    | false =>
      simp only [Bool.false_eq_true, if_false, pure_bind]
      exact go true
  · have hi : (hss P w L)[i]? = some (hsh P w k) := by rw [List.getElem?_map, hp, ← kp]; rfl
    have il : i < t.place.toList.length := by rw [pl]; exact (List.getElem?_eq_some_iff.mp hp).1
    have hj := List.getElem?_eq_getElem il
    obtain ⟨c, hc, e⟩ := S.tb.before K1 hi hj
    exact ⟨c, ⟨Nat.zero_le _, hc⟩, by rw [hj, e]⟩
end
end Sn

set_option Elab.async false
set_option linter.all false
set_option maxRecDepth 100000
set_option maxHeartbeats 4000000
/-! Sets of tuples of ints and texts as tracked things. -/
namespace Sn
open PySem PySem.Spec PyProof.Rows L2 Br
/-- the set at a, without the tuples themselves -/
def N0 (P : Program) (w : World) (h : Heap) (a : Addr) (L : List (Addr × List Key)) : Prop := ∃ (es : Array (Int × Value)) (ep : Nat) (t : SetTable), (∃ o, h.get? a = some o ∧ o.ExactSet ∧ o.data = .set es ep t) ∧ es.toList = L.map (rw1 P w) ∧ TabOk t (hss P w L) ∧ (L.map (·.2)).Nodup ∧
  (w.params.followText "set-order" = true ∨ t.led = true) ∧ L.length * 5 < t.mask * 3 ∧ L.length < 18
def NsO (P : Program) (w : World) (a : Addr) (L : List (Addr × List Key)) : HO := .ext fun h => N0 P w h a L
theorem Tr.n0 {P : Program} {w : World} {h : Heap} {a : Addr} {L : List (Addr × List Key)} {es : Array (Int × Value)} {ep : Nat} {t : SetTable} (S : Tr P w h a L es ep t) : N0 P w h a L := ⟨es, ep, t, S.ob, S.ro, S.tb, S.nd, S.ld, S.rm, S.fw⟩
theorem N0.tr {P : Program} {w : World} {h : Heap} {a : Addr} {L : List (Addr × List Key)} (N : N0 P w h a L) (tu : ∀ p ∈ L, Tu P w h p.2 p.1) : ∃ es ep t, Tr P w h a L es ep t := by
  obtain ⟨es, ep, t, b1, b2, b3, b4, b5, b6, b7⟩ := N
  exact ⟨es, ep, t, b1, b2, b3, b4, tu, b5, b6, b7⟩
theorem nsO_ok {P : Program} {w : World} {H : Hp} {h : Heap} {a : Addr} {L : List (Addr × List Key)} (N : N0 P w h a L) : ObjOk P w H h a (NsO P w a L) := by
  have ⟨_, _, _, ⟨o, oa, _⟩, _⟩ := N
  refine ⟨N, ⟨o, oa⟩, fun h1 h2 p k => ?_⟩
  obtain ⟨es', ep', t', ⟨o', oa', r'⟩, q'⟩ := p
  exact ⟨es', ep', t', ⟨o', k o' oa', r'⟩, q'⟩
theorem n0_new (P : Program) (w : World) {h : Heap} : N0 P w (h.push { cls := .type "set", dict := none, data := .set #[] 0 (.fresh 0 0 (!w.params.followText "set-order")) }) h.objs.size [] := by
  refine ⟨#[], 0, _, ⟨_, Heap.get?_push_size _ rfl, ⟨rfl, rfl, rfl⟩, rfl⟩, rfl, ⟨List.Pairwise.nil, rfl, rfl, .inl rfl, (fun x z => by cases z), fun i h j z => by cases z⟩, List.nodup_nil, ?_, (by show 0 * 5 < 7 * 3; decide), (by show 0 < 18; decide)⟩
  show _ ∨ (!w.params.followText "set-order") = true
  cases w.params.followText "set-order"
  · exact .inr rfl
  · exact .inl rfl
section
variable {X : Cx} {pins : List (Addr × Obj)} {σ : L2.St} {H : Hp} {s : Shared}
theorem n0_get {a : Addr} {L : List (Addr × List Key)} (I : Inv X pins σ H s) (e : H a = some (NsO X.prog X.w a L)) : N0 X.prog X.w s.heap a L := (I.hok a _ e).1
theorem tu_of {b : Addr} {k : List Key} (I : Inv X pins σ H s) (e : SqT X.K H b (k.map kV)) : Tu X.prog X.w s.heap k b := by
  obtain ⟨its, r, ⟨o, oa, c, n, d⟩, _⟩ := I.tuple e
  exact ⟨o, its.toArray, n, oa, c, d, by simpa using items_are r⟩
/-- a name is added -/
theorem addN_ok {E : Value → Shared → Prop} {D x : Addr} {k : List Key} {L : List (Addr × List Key)} {Q : Value → Shared → Prop} (I : Inv X pins σ H s) (hD : H D = some (NsO X.prog X.w D L)) (tu : ∀ p ∈ L, SqT X.K H p.1 (p.2.map kV)) (hx : SqT X.K H x (k.map kV))
    (few : L.length + 1 < 18) (hu : X.A.units + 64 < cLine) (q : ∀ s' L', Inv X pins σ (upd H D (NsO X.prog X.w D L')) s' → ((k ∈ L.map (·.2) ∧ L' = L) ∨ (k ∉ L.map (·.2) ∧ L'.Perm ((x, k) :: L))) → Q .none s') :
    wpAny (model X.prog X.w) X.A (call (.builtin "set.add") [.ref D, .ref x]) Q E s := by
  obtain ⟨es, ep, t, S⟩ := (n0_get I hD).tr fun p m => tu_of I (tu p m)
  have xt := tu_of I hx
  obtain ⟨o, oa, ox, od⟩ := S.ob
  have ty : s.TypeIs (.ref D) "set" := ⟨o, oa, ox.1⟩
  have u1 : X.A.in1.units < cLine := by
    have : X.A.in1.units ≤ X.A.units + 1 := Nat.le_refl _
    omega
  refine wpAny_call_entry F.slot_set_add ty F.entry_set_add ?_ (F.args_set_add_2 _ _)
  unfold Builtin.«set.add» Builtin.Frozenset.oneOther
  simp only [List.isEmpty_nil, bind_assoc]
  unfold Builtin.Frozenset.addrOf setAdd
  simp only [pure_bind]
  refine wpAny_bind (wpAny_holding (wpAny_bind (wpAny_pyHash_tuple u1 xt ?_)))
  have S2 : Tr X.prog X.w ({ s with toks := s.toks + (k.length + 1) } : Shared).heap D L es ep t := S
  refine tr_add (s := { s with toks := s.toks + (k.length + 1) }) S2 xt u1 few fun b h' L' es' ep' t' sb S3 c => ?_
  have he : ∃ u, h'.get? D = some u := let ⟨o, e, _⟩ := S3.ob; ⟨o, e⟩
  exact wpAny_pure ⟨_, rfl, q _ L' (I.write (e := D) (t' := s.toks + (k.length + 1)) (by rw [hD]; trivial) (.inl rfl) (fun b u hb e => (sb.2 b hb).trans e) he (nsO_ok S3.n0)) c⟩
end
end Sn

set_option Elab.async false
set_option linter.all false
set_option maxRecDepth 100000
set_option maxHeartbeats 4000000
/-! {name for ..} -/
namespace Sn
open PySem PySem.Spec PyProof.Rows L2 Br PpSet
/-- how a set that had L has L' with (c, k) added -/
def Grew (L L' : List (Addr × List Key)) (c : Addr) (k : List Key) : Prop := (k ∈ L.map (·.2) ∧ L' = L) ∨ (k ∉ L.map (·.2) ∧ L'.Perm ((c, k) :: L))
section
variable {X : Cx}
/-- the reading: D the new set -/
def tNc (P : Program) (w : World) (K : PySem.W.Frag) (wi : TI) (g : TG) (tt : TT) (te : TE) (vs : List Nat) : TE := fun σ H Q => wi σ H fun J H1 => ∀ D, H1 D = none → ∃ W : Nat → Nat → Hp → Prop, (∃ m, W 0 m (upd H1 D (NsO P w D []))) ∧ ∀ i m H, W i m H →
  (J.stop i H ∧ Q (.ref D) H) ∨ (J.go i H ∧ ∃ Nx : Hp → Prop, (∀ H', Nx H' → ∃ m', m' < m ∧ W (i + 1) m' H') ∧ ∀ x H', J.yld i H x H' → g x (wipe σ vs) H' fun σ2 H2 => wipe σ2 vs = wipe σ vs ∧ tt σ2 H2 fun b H3 =>
    if b = true then te σ2 H3 fun y H4 => ∃ (c : Addr) (k : List Key) (L : List (Addr × List Key)), y = .ref c ∧ SqT K H4 c (k.map kV) ∧ H4 D = some (NsO P w D L) ∧ (∀ p ∈ L, SqT K H4 p.1 (p.2.map kV)) ∧ L.length + 1 < 18 ∧ ∀ L', Grew L L' c k → Nx (upd H4 D (NsO P w D L')) else Nx H3)
theorem pe_nc {elt tg iter : Expr} {ifs : List Expr} {scope : Scope} {own : List (PySem.Str × Nat)} {pos : Pos} {wi : TI} {g : TG} {tt : TT} {te : TE} (hu : X.A.units + 64 < cLine) (hc : X.calm = true) (hN : X.N.Nodup) (hi : PI X tg iter wi) (ok : BlkOk X.N X.env.scope scope own)
    (hg : ∀ (s : Shared) (H : Hp) (C : Addr) (cl : List (PySem.Str × Addr)) (fp : List Addr), PG (X.blk s H scope (compEnvC scope cl C X.env) fp) tg g) (ht : ∀ (s : Shared) (H : Hp) (C : Addr) (cl : List (PySem.Str × Addr)) (fp : List Addr), PTs (X.blk s H scope (compEnvC scope cl C X.env) fp) ifs tt)
    (he : ∀ (s : Shared) (H : Hp) (C : Addr) (cl : List (PySem.Str × Addr)) (fp : List Addr), PE (X.blk s H scope (compEnvC scope cl C X.env) fp) elt te) (hs : ∀ x, foldedSetIterable iter X.env x = pure x := by intro _; rfl) :
    PE X (.SetComp elt [⟨tg, iter, ifs, 0⟩] scope pos) (tNc X.prog X.w X.K wi g tt te (own.map (·.2))) := by
  refine ⟨fun pins s σ H Q I h => ?_⟩
  rw [eval_SetComp]
  have free : ∀ y ∈ scope.names, y.2 = .free → ∃ c, X.env.cells.lookup y.1 = some c := fun y hy e => (ok.free y hy e).elim (fun k => I.ok.has _ (.inl k)) fun k => I.ok.has _ (.inr k)
  refine wpAny_comprehension_free (use := none) rfl hs (closure_ok free) ok.kind (fun y hy e => (ok.uniq y hy).trans (congrArg some e)) (thn (hi.run pins s σ H _ I h) fun xv s1 hx => thn hx fun itv s2 h2 => ?_)
  obtain ⟨it, fp, tn, J, H2, e, I2, T, st2, f2, q⟩ := h2
  subst e
  refine newSet_ok (newEnv_comp ?_)
  -- the set, at D
  generalize hD : s2.heap.objs.size = D
  have dn : H2 D = none := I2.hok.fresh (Nat.le_of_eq hD)
  obtain ⟨W, ⟨m0, w0⟩, turn⟩ := q D dn
  generalize hs3 : ({ s2 with heap := s2.heap.push { cls := .type "set", dict := none, data := .set #[] 0 (.fresh 0 0 (!X.w.params.followText "set-order")) } } : Shared) = s3
  have I3 : Inv X pins σ (upd H2 D (NsO X.prog X.w D [])) s3 := by
    subst hs3
    refine I2.laid (t' := s2.toks) (fun b o e => Heap.get?_push_of_some _ e) (Nat.le_of_eq hD) ?_
    subst hD
    exact nsO_ok (n0_new X.prog X.w)
  have hp3 : s3.heap = s2.heap.push { cls := .type "set", dict := none, data := .set #[] 0 (.fresh 0 0 (!X.w.params.followText "set-order")) } := by rw [← hs3]
  have lt : ∀ b ∈ fp, b < s2.heap.objs.size := fun b hb => let ⟨o, e, _⟩ := T.obj _ _ st2 b hb; Heap.lt_size e
  have f3 : ∀ b ∈ fp, FpOk X pins (upd H2 D (NsO X.prog X.w D [])) b ∧ b < s3.heap.objs.size := fun b hb => by
    have l := lt b hb
    refine ⟨⟨?_, (f2 b hb).2⟩, by rw [hp3, Heap.size_push]; exact Nat.lt_succ_of_lt l⟩
    rw [upd_ne (fun z => by rw [z, ← hD] at l; exact Nat.lt_irrefl _ l)]
    exact (f2 b hb).1
  have st3 : tn 0 s3.heap := T.keep _ _ _ st2 fun b _ o e => by rw [hp3]; exact Heap.get?_push_of_some _ e
  have I4 := block_start I3 ok hN f3
  have pg := hg s3 (upd H2 D (NsO X.prog X.w D [])) s3.heap.objs.size (cellsFrom (s3.heap.objs.size + 1) scope.names (cloFrom X.env.cells scope.names [])) fp
  have pt := ht s3 (upd H2 D (NsO X.prog X.w D [])) s3.heap.objs.size (cellsFrom (s3.heap.objs.size + 1) scope.names (cloFrom X.env.cells scope.names [])) fp
  have pe := he s3 (upd H2 D (NsO X.prog X.w D [])) s3.heap.objs.size (cellsFrom (s3.heap.objs.size + 1) scope.names (cloFrom X.env.cells scope.names [])) fp
  have nfp : ∀ b ∈ fp, (upd H2 D (NsO X.prog X.w D [])) b = none := fun b hb => (f3 b hb).1.1
  show codeAny _ _ (.compStart (.SetComp elt [⟨tg, iter, ifs, 0⟩] scope pos) 0 (.ref it) (.ref D) (compEnvC scope (cellsFrom (s3.heap.objs.size + 1) scope.names (cloFrom X.env.cells scope.names [])) s3.heap.objs.size X.env)) (compPost (model X.prog X.w) X.A X.xe none (fun v s' => ∃ x H', Inv X pins σ H' s' ∧ RelV x v ∧ Q x H') (.ref D) s3.heap.objs.size) { s3 with heap := pushCells (s3.heap.push { cls := .type "dict", data := .dict #[] }) scope.names }
  generalize hce : compEnvC scope (cellsFrom (s3.heap.objs.size + 1) scope.names (cloFrom X.env.cells scope.names [])) s3.heap.objs.size X.env = ce at I4 pg pt pe ⊢
  have loc : ce.locals = s3.heap.objs.size := by rw [← hce]; rfl
  generalize upd H2 D (NsO X.prog X.w D []) = H3 at I3 I4 pg pt pe w0 nfp f3
  generalize hs4 : ({ s3 with heap := pushCells (s3.heap.push { cls := .type "dict", data := .dict #[] }) scope.names } : Shared) = s4 at I4 ⊢
  have st4 : tn 0 s4.heap := T.keep _ _ _ st3 fun b _ o e => by rw [← hs4]; exact pushCells_keeps _ _ _ _ (Heap.get?_push_of_some _ e)
  have fpk : ∀ {σ' : L2.St} {H' : Hp} {s' : Shared}, Inv (X.blk s3 H3 scope ce fp) [] σ' H' s' → (∀ b ∈ fp, H' b = none) → ∀ b ∈ fp, FpOk (X.blk s3 H3 scope ce fp) [] H' b := fun {_ H' _} I' hn b hb =>
    ⟨hn b hb, (I'.ok.exf b hb).1, I'.ok.exfs b hb, .inl hb, (fun x c e => (I'.ok.exf b hb).2 x c e), fun p m => by cases (show p ∈ ([] : List (Addr × Obj)) ++ [] from m)⟩
  refine codeAny_compStart_set (?loop : codeAny (model X.prog X.w) X.A (.compLoop (.SetComp elt [⟨tg, iter, ifs, 0⟩] scope pos) 0 (.ref it) (.ref D) ce) _ s4) (T.self X.A 0 _ _ _ st4 ?loop)
  refine compLoopS_any (fun n s' => ∃ i H', (Inv (X.blk s3 H3 scope ce fp) [] (wipe σ (own.map (·.2))) H' s' ∧ tn i s'.heap) ∧ (∀ b ∈ fp, H' b = none) ∧ W i n H') (fun n s5 hI => ?_) m0 ⟨0, H3, ⟨I4, st4⟩, nfp, w0⟩
  obtain ⟨i, H5, ⟨I5, st5⟩, n5, w5⟩ := hI
  rcases turn i n H5 w5 with ⟨stop, qq⟩ | ⟨go, Nx, hNx, step⟩
  · refine thnF (T.done (X.blk s3 H3 scope ce fp) rfl rfl rfl hc i [] s5 _ H5 (fun _ _ => False) I5 (fpk I5 n5) st5 stop) fun r s6 h6 => ?_
    obtain ⟨rfl, I6⟩ := h6
    have I7 : Inv X pins σ H5 s6 := I3.call' (ch := fp) I6.os I6.base I6.hok I6.bare fun b hb => let z := (f3 b hb).1; ⟨z.2.2.2.1, z.2.1, z.2.2.2.2.1, z.2.2.2.2.2⟩
    have nC : H5 s3.heap.objs.size = none := by rw [← loc]; exact I6.free
    obtain ⟨m, hn, _⟩ := I6.loc
    have hn : s6.heap.Ns s3.heap.objs.size m := by rw [← loc]; exact hn
    refine ⟨m, hn, fun h'' sb => ?_⟩
    obtain ⟨g0, g1, g2, g3, g4, g5⟩ := I3.fpOk (Nat.le_refl _) nC
    exact ⟨.ref D, H5, I7.turned (t' := s6.toks) (fun b o hb e => (sb.2 b hb).trans e) g0 g1 g3 g4 g5, rfl, qq⟩
  · refine thnF (T.item (X.blk s3 H3 scope ce fp) rfl rfl rfl hc i [] s5 _ H5 (fun _ _ => False) I5 (fpk I5 n5) st5 go) fun r s6 h6 => ?_
    obtain ⟨u, rfl, h6⟩ := h6
    refine thnF h6 fun _ s7 h7 => ?_
    obtain ⟨x, H7, I7, r7, y7, st7, n7⟩ := h7
    have I7' := I7.pinned (fpk I7 n7) (T.obj _ _ st7)
    refine thnF (pg.run _ s7 _ H7 x u _ I7' r7 (step x H7 y7)) fun _ s8 h8 => ?_
    obtain ⟨σ8, H8, I8, hw8, q8⟩ := h8
    refine thnF (pt.run _ s8 σ8 H8 _ I8 q8) fun b s9 h9 => ?_
    obtain ⟨H9, I9, q9⟩ := h9
    have back : ∀ {s' : Shared} {H' : Hp}, Inv (X.blk s3 H3 scope ce fp) ([] ++ pinsAt fp s7.heap) σ8 H' s' → Nx H' → ∃ m, m < n ∧ ∃ i H', (Inv (X.blk s3 H3 scope ce fp) [] (wipe σ (own.map (·.2))) H' s' ∧ tn i s'.heap) ∧ (∀ b ∈ fp, H' b = none) ∧ W i m H' := fun {s' H'} I' nx => by
      obtain ⟨m', hm, w'⟩ := hNx H' nx
      have pin : ∀ b ∈ fp, ∀ o, s7.heap.get? b = some o → s'.heap.get? b = some o ∧ H' b = none := fun b hb o e => let z := I'.pin (b, o) (List.mem_append_right _ (List.mem_append_right _ (mem_pinsAt hb e))); ⟨z.1, z.2.1⟩
      refine ⟨m', hm, i + 1, H', ⟨(I'.unpinned (pins := [])).weak (by rw [← hw8, wipe_length]) fun j v e => ?_, T.keep _ _ _ st7 fun b hb o e => (pin b hb o e).1⟩, fun b hb => ?_, w'⟩
      · rw [← hw8] at e
        exact (wipe_some e).1
      · obtain ⟨o, e, _⟩ := T.obj _ _ st7 b hb
        exact (pin b hb o e).2
    cases b with
    | false => exact back I9 q9
    | true =>
      refine thnF (pe.run _ s9 σ8 H9 _ I9 q9) fun z s10 h10 => ?_
      obtain ⟨yv, H10, I10, r10, c, k, L, rfl, hx, hD10, tu, few, nx⟩ := h10
      cases (show z = Value.ref c from r10)
      exact addN_ok (X := X.blk s3 H3 scope ce fp) I10 hD10 tu hx few hu fun s11 L' I11 gr => back I11 (nx L' gr)
end
end Sn

set_option Elab.async false
set_option linter.all false
set_option maxRecDepth 100000
set_option maxHeartbeats 4000000
/-! sorted(a set of names) -/
namespace Sn
open PySem PySem.Spec PyProof.Rows L2 Br
section
variable {prog : Program} {w : World} {A : Around} {E : Value → Shared → Prop} {s : Shared} {a : Addr} {L : List (Addr × List Key)} {es : Array (Int × Value)} {ep : Nat} {t : SetTable}
/-- sorted(set): what is collected, in whatever order, is sorted -/
theorem sorted_setN {shape : Nat → Bool} {Q : Value → Shared → Prop} (S : Tr prog w s.heap a L es ep t) (hh : A.handled = none)
    (ht : ∀ h2 : Heap, (∀ b o, s.heap.get? b = some o → h2.get? b = some o) → ∀ vs : List Value, vs.Perm (L.map fun p => Value.ref p.1) → ∃ fs, TupsOf h2 shape vs fs)
    (hk : ∀ h2 : Heap, (∀ b o, s.heap.get? b = some o → h2.get? b = some o) → ∀ v, v ∈ (L.map fun p => Value.ref p.1) → ∃ x, G.tupKeyC h2 shape v = some x)
    (h : ∀ (s1 : Shared) (h1 : Heap) (vs : List Value) (st' : SortSt), (∀ b o, s.heap.get? b = some o → s1.heap.get? b = some o) → s.heap.objs.size ≤ s1.heap.objs.size → s1.gens = s.gens → s1.os = s.os → vs.Perm (L.map fun p => Value.ref p.1) →
      (∀ b o, s1.heap.get? b = some o → h1.get? b = some o) → h1.get? s1.heap.objs.size = some (seqObj "list" vs.toArray 0) → (arrOf st').Perm (pairsOf vs) → SortedToK (G.tupKindC h1 shape) (arrOf st') (pairsOf vs).size →
      Q (.ref s1.heap.objs.size) { s1 with heap := sortedHeap h1 s1.heap.objs.size vs ((arrOf st').map (·.2)) }) : wpAny (model prog w) A (call (.builtin "sorted") [.ref a]) Q E s := by
  have sz := S.sz
  have few := S.fw
  obtain ⟨o, oa, ox, od⟩ := S.ob
  have val : es.toList.map (·.2) = L.map fun p => Value.ref p.1 := by rw [S.ro, List.map_map]; rfl
  refine Calls.call_function_entry kind_sorted plain_sorted entry_sorted (args_sorted1 _) ?_
  unfold Builtin.«sorted»
  refine wpAny_bind (m := checkCount "sorted" 1 1 _) (wpAny_pure (wpAny_bind (collect_set (A := A.in1) hh ⟨o, oa, ox.1, od⟩ S.ft (by unfold scanBound; omega) S.tb.ris S.ld fun s1 vs k1 z1 g1 o1 pm => ?_)))
  rw [val] at pm
  have ln : vs.length = L.length := by rw [pm.length_eq, List.length_map]
  have hL : vs.length ≤ sizeLine := by rw [ln, sizeLine_eq]; omega
  refine wpAny_bind (wpAny_newList ?_ hL)
  have k2 : ∀ b o, s1.heap.get? b = some o → (s1.heap.push (seqObj "list" vs.toArray 0)).get? b = some o := fun b o e => Heap.get?_push_of_some _ e
  have at1 : (s1.heap.push (seqObj "list" vs.toArray 0)).get? s1.heap.objs.size = some (seqObj "list" vs.toArray 0) := Heap.get?_push_size _ rfl
  obtain ⟨fs, tf⟩ := ht (s1.heap.push (seqObj "list" vs.toArray 0)) (fun b o e => k2 b o (k1 b o e)) vs pm
  refine wpAny_bind (wpAny_holding (wpAny_call_entry (s := { s1 with heap := s1.heap.push (seqObj "list" vs.toArray 0) }) slot_list_sort ⟨_, at1, rfl⟩ entry_list_sort (G.list_sort_tups at1 tf (fun v m => hk _ (fun b o e => k2 b o (k1 b o e)) v (pm.mem_iff.mp m)) hL fun st' a1 a2 a3 => ⟨_, rfl, ?r⟩) (args_list_sort _)))
  exact wpAny_pure ⟨_, rfl, h s1 _ vs st' k1 z1 g1 o1 pm k2 at1 a1 a2⟩
end
theorem perm_pull {α β : Type} {f : α → β} : ∀ {out : List β} {L : List α}, out.Perm (L.map f) → ∃ L' : List α, out = L'.map f ∧ L'.Perm L
  | [], L, h => ⟨[], rfl, by rw [List.map_eq_nil_iff.mp (List.nil_perm.mp h)]⟩
  | v :: r, L, h => by
    obtain ⟨p, hp, e⟩ := List.mem_map.mp (h.mem_iff.mp List.mem_cons_self)
    obtain ⟨l1, l2, rfl⟩ := List.append_of_mem hp
    have h2 : (v :: r).Perm (f p :: (l1 ++ l2).map f) := h.trans (by rw [List.map_append, List.map_cons, List.map_append]; exact List.perm_middle)
    rw [e] at h2
    obtain ⟨L', e', pm⟩ := perm_pull h2.cons_inv
    exact ⟨p :: L', by rw [List.map_cons, e, ← e'], (pm.cons p).trans List.perm_middle.symm⟩
section
variable {X : Cx}
def rSortNs (K : PySem.W.Frag) (P : Program) (w : World) : List V → Hp → VK → Prop := fun vs H Q => ∃ (a : Addr) (L : List (Addr × List Key)) (kf : Value → Str × Int), vs = [.ref a] ∧ H a = some (NsO P w a L) ∧ (∀ p ∈ L, SqT K H p.1 (p.2.map kV) ∧ p.2 = nkeys (kf (.ref p.1))) ∧
  ∀ (L' : List (Addr × List Key)) (p : Addr), L'.Perm L → (L'.map (·.2)).Nodup → L'.Pairwise (fun x y => ltN (kf (.ref y.1)) (kf (.ref x.1)) = false) → H p = none → Q (.ref p) (upd H p (.lst (L'.map fun q => .ref q.1)))
theorem refs_vals : ∀ L : List (Addr × List Key), Vals (L.map fun q => V.ref q.1) (L.map fun q => Value.ref q.1)
  | [] => .nil
  | p :: L => .cons rfl (refs_vals L)
theorem cr_sortNs (hc : X.calm = true) : CallR X (.builtin "sorted") (rSortNs X.K X.prog X.w) := by
  intro pins s σ H vs ws Q I r h
  obtain ⟨a, L, kf, rfl, ha, hx, q⟩ := h
  obtain ⟨u, rfl, ru⟩ := vals1 r
  cases (show u = Value.ref a from ru)
  obtain ⟨es, ep, t, S⟩ := (n0_get I ha).tr fun p m => tu_of I (hx p m).1
  let shape : Nat → Bool := fun i => decide (i = 0)
  have look : ∀ v ∈ (L.map fun p => Value.ref p.1), ∃ t o t1 t2 n, v = .ref t ∧ s.heap.get? t = some o ∧ o.cls = .type "tuple" ∧ o.data = .seq #[.str (kf v).1 t1, .int (kf v).2 t2] n := by
    intro v hv
    obtain ⟨p, hp, rfl⟩ := List.mem_map.mp hv
    obtain ⟨sq, e⟩ := hx p hp
    rw [e] at sq
    obtain ⟨its2, r2, ⟨o, ho, hcl, n, hd⟩, _⟩ := I.tuple sq
    obtain ⟨u1, u2, rfl, ⟨t1, rfl⟩, ⟨t2, rfl⟩⟩ := vals2 r2
    exact ⟨_, o, t1, t2, n, rfl, ho, hcl, hd⟩
  have key : ∀ h2 : Heap, (∀ b o, s.heap.get? b = some o → h2.get? b = some o) → ∀ v ∈ (L.map fun p => Value.ref p.1), G.tupKeyC h2 shape v = some (rawKey (kf v)) := fun h2 k v hv => by
    obtain ⟨t, o, t1, t2, n, e, ho, hcl, hd⟩ := look v hv
    have ho := k _ _ ho
    subst e
    have it : G.isTupObj h2 (.ref t) = true := by unfold G.isTupObj; simp [ho, hcl]
    unfold G.tupKeyC
    rw [if_pos it]
    unfold tupKey
    simp only [ho, hd]
    rfl
  refine sorted_setN (shape := shape) S (I.ok.hd hc) (fun h2 k vs pm => tups_of fun v hv => ?_) (fun h2 k v hv => ⟨_, key h2 k v hv⟩) fun s1 h1 vs st' k1 z1 g1 o1 pm k2 l1 hp hso => ?_
  · obtain ⟨t, o, t1, t2, n, rfl, ho, hcl, hd⟩ := look v (pm.mem_iff.mp hv)
    exact ⟨_, t, o, _, n, rfl, k _ _ ho, hcl, hd, rfl, fun z => (by cases z), fun _ => ⟨_, _, rfl⟩⟩
  have zz : (pairsOf vs).toList = vs.zip vs := pairsOf_toList vs
  have hpl : (arrOf st').toList.Perm (vs.zip vs) := by rw [← zz]; exact hp.toList
  have own : ∀ p ∈ (arrOf st').toList, p.1 = p.2 ∧ p.1 ∈ vs := fun p hm => mem_zip_self (hpl.mem_iff.mp hm)
  have sz : (arrOf st').size = vs.length := by
    have := hpl.length_eq
    rw [Array.length_toList, List.length_zip] at this
    omega
  have outp : ((arrOf st').toList.map (·.2)).Perm vs := by
    have z := hpl.map (·.2)
    rwa [List.map_snd_zip (Nat.le_refl _)] at z
  have oute : ((arrOf st').map (·.2)).toList = (arrOf st').toList.map (·.2) := Array.toList_map
  obtain ⟨L', eL, pL⟩ := perm_pull (outp.trans pm)
  obtain ⟨e, hn⟩ := sortedHeap_at (vs := vs) (out := (arrOf st').map (·.2)) l1
  have lenL : L'.length < 18 := by rw [pL.length_eq]; exact S.fw
  have kk : ∀ n (hn : n < (arrOf st').size), KK (G.tupKindC h1 shape) (arrOf st') n = rawKey (kf ((arrOf st')[n]).2) := fun n hn => by
    have m : (arrOf st')[n] ∈ (arrOf st').toList := by
      rw [← Array.getElem_toList]
      exact List.getElem_mem _
    obtain ⟨o1, o2⟩ := own _ m
    unfold KK
    rw [Array.getElem?_eq_getElem hn]
    show (G.tupKeyC h1 shape ((arrOf st')[n]).1).getD [] = _
    rw [key h1 (fun b o e => k2 b o (k1 b o e)) _ (pm.mem_iff.mp o2), ← o1]
    rfl
  have pw : L'.Pairwise (fun x y => ltN (kf (.ref y.1)) (kf (.ref x.1)) = false) := by
    have base : ((arrOf st').toList.map (·.2)).Pairwise (fun x y => ltN (kf y) (kf x) = false) := by
      rw [List.pairwise_iff_getElem]
      intro i j hi hj hij
      have hi' : i < (arrOf st').size := by rwa [List.length_map, Array.length_toList] at hi
      have hj' : j < (arrOf st').size := by rwa [List.length_map, Array.length_toList] at hj
      have z := hso i j (Nat.le_of_lt hij) (by
        have : (pairsOf vs).size = vs.length := by rw [← Array.length_toList, zz, List.length_zip]; omega
        omega)
      rw [kk i hi', kk j hj'] at z
      have z' : (listOrd itemOrd).blt (rawKey (kf ((arrOf st')[j]).2)) (rawKey (kf ((arrOf st')[i]).2)) = false := z
      rw [raw_lt] at z'
      simp only [List.getElem_map, Array.getElem_toList]
      exact z'
    rw [eL] at base
    exact List.pairwise_map.mp base
  have old : ∀ b o, s.heap.get? b = some o → (sortedHeap h1 s1.heap.objs.size vs ((arrOf st').map (·.2))).get? b = some o := fun b o z => by
    have lt := Nat.lt_of_lt_of_le (Heap.lt_size z) z1
    have z2 := k2 _ _ (k1 _ _ z)
    rw [sortedHeap_old (Nat.ne_of_lt lt) (Heap.lt_size z2)]
    exact z2
  have J : Inv X pins σ (upd H s1.heap.objs.size (.lst (L'.map fun q => .ref q.1))) { s with heap := sortedHeap h1 s1.heap.objs.size vs ((arrOf st').map (·.2)), gens := s1.gens, drawn := s1.drawn, toks := s1.toks } := by
    refine I.call (ch := []) (Un.laid old z1 (I.hok.fresh z1)) (I.hok.laid old z1 ⟨by rw [List.length_map, sizeLine_eq]; omega, L'.map fun q => Value.ref q.1, e, refs_vals L', ?_⟩) (by rw [g1]; exact I.bare) fun _ z => nomatch z
    rw [hn, ← eL, ← oute, Array.toArray_toList]
  have es1 : ({ s1 with heap := sortedHeap h1 s1.heap.objs.size vs ((arrOf st').map (·.2)) } : Shared) = { s with heap := sortedHeap h1 s1.heap.objs.size vs ((arrOf st').map (·.2)), gens := s1.gens, drawn := s1.drawn, toks := s1.toks } := by
    cases s1; cases s; cases o1; rfl
  rw [es1]
  exact ⟨.ref s1.heap.objs.size, _, J, rfl, q L' _ pL ((pL.map (·.2)).nodup_iff.mpr S.nd) pw (I.hok.fresh z1)⟩
end
end Sn

set_option Elab.async false
set_option linter.all false
set_option maxRecDepth 100000
set_option maxHeartbeats 4000000
/-! Sets of names: {.. for ..}, sorted at once. -/
namespace Dl
open PySem PySem.Spec PyProof.Rows L2 Br Sn
section
variable {K : PySem.W.Frag} {P : Program} {w : World}
abbrev Zr := (Addr × List Key) × D
/-- a set's elements as they lie, with their data -/
def ZsIn (K : PySem.W.Frag) (G : Hp) (zs : List Zr) : Prop := ∀ z ∈ zs, Rp K G (.ref z.1.1) z.2 ∧ isPr z.2 = true ∧ z.1.2 = nkeys (prOf z.2)
/-- some of those that were put in, each once -/
def Dd (acc ds : List D) : Prop := (∀ d ∈ ds, d ∈ acc) ∧ (∀ d ∈ acc, prOf d ∈ ds.map prOf) ∧ (ds.map prOf).Nodup
theorem dd_nil : Dd [] [] := ⟨(fun _ h => nomatch h), (fun _ h => nomatch h), List.nodup_nil⟩
theorem nkeys_inj {a b : Str × Int} (h : nkeys a = nkeys b) : a = b := by
  obtain ⟨x, i⟩ := a
  obtain ⟨y, j⟩ := b
  unfold nkeys at h
  simp at h
  rw [h.1, h.2]
theorem zs_same {G G' : Hp} (e : Same G G') {zs : List Zr} (h : ZsIn K G zs) : ZsIn K G' zs := fun z m => let q := h z m; ⟨rp_same e q.1, q.2⟩
theorem zs_tu {G H : Hp} (g : Same G H) {zs : List Zr} (h : ZsIn K G zs) : ∀ p ∈ zs.map (·.1), SqT K H p.1 (p.2.map kV) := fun p m => by
  obtain ⟨z, hz, rfl⟩ := List.mem_map.mp m
  obtain ⟨r, ip, e⟩ := h z hz
  obtain ⟨b, eb, sq⟩ := pr_name g r ip
  cases eb
  rw [e]; exact sq
/-- one is put in -/
theorem zs_grew {G : Hp} {zs : List Zr} {acc : List D} {d : D} {c : Addr} {L' : List (Addr × List Key)} (h : ZsIn K G zs) (dd : Dd acc (zs.map (·.2))) (r : Rp K G (.ref c) d) (ip : isPr d = true) (gr : Grew (zs.map (·.1)) L' c (nkeys (prOf d))) :
    ∃ zs' : List Zr, L' = zs'.map (·.1) ∧ ZsIn K G zs' ∧ Dd (acc ++ [d]) (zs'.map (·.2)) ∧ zs'.length ≤ zs.length + 1 := by
  obtain ⟨d1, d2, d3⟩ := dd
  have keys : (zs.map (·.1)).map (·.2) = (zs.map (·.2)).map fun d => nkeys (prOf d) := by
    rw [List.map_map, List.map_map]
    exact List.map_congr_left fun z m => (h z m).2.2
  rcases gr with ⟨m, rfl⟩ | ⟨nm, pm⟩
  · refine ⟨zs, rfl, h, ⟨fun x hx => List.mem_append_left _ (d1 x hx), fun x hx => ?_, d3⟩, by omega⟩
    rcases List.mem_append.mp hx with hx | hx
    · exact d2 x hx
    · rw [List.mem_singleton.mp hx]
      rw [keys] at m
      obtain ⟨y, hy, e⟩ := List.mem_map.mp m
      exact List.mem_map.mpr ⟨y, hy, nkeys_inj e⟩
  · obtain ⟨zs', e', pm'⟩ := perm_pull (f := fun z : Zr => z.1) (L := ((c, nkeys (prOf d)), d) :: zs) pm
    have pm2 : (zs'.map (·.2)).Perm (d :: zs.map (·.2)) := pm'.map (·.2)
    refine ⟨zs', e', fun z m => ?_, ⟨fun x hx => ?_, fun x hx => ?_, ?_⟩, by rw [pm'.length_eq]; exact Nat.le_refl _⟩
    · rcases List.mem_cons.mp (pm'.mem_iff.mp m) with rfl | m
      · exact ⟨r, ip, rfl⟩
      · exact h z m
    · rcases List.mem_cons.mp (pm2.mem_iff.mp hx) with rfl | hx
      · exact List.mem_append_right _ (List.mem_singleton.mpr rfl)
      · exact List.mem_append_left _ (d1 x hx)
    · rw [(pm2.map prOf).mem_iff, List.map_cons]
      rcases List.mem_append.mp hx with hx | hx
      · exact List.mem_cons_of_mem _ (d2 x hx)
      · rw [List.mem_singleton.mp hx]; exact List.mem_cons_self
    · rw [(pm2.map prOf).nodup_iff, List.map_cons]
      refine List.nodup_cons.mpr ⟨fun m => nm ?_, d3⟩
      obtain ⟨y, hy, e⟩ := List.mem_map.mp m
      rw [keys]
      exact List.mem_map.mpr ⟨y, hy, by rw [e]⟩
/-- the flavour: a new set; its data are a list of its elements -/
def fN (P : Program) (w : World) (K : PySem.W.Frag) : Fl := fun H0 σ ρ G H v d => ∃ (p : Addr) (zs : List Zr), v = .ref p ∧ H p = some (NsO P w p (zs.map (·.1))) ∧ d = .list (zs.map (·.2)) ∧ ZsIn K G zs
def mNcL (mg : MG) (mt : MT) (me : ME) (vs : List Nat) (k : List D → Cs → Prop) : List D → List D → Cs → Prop
  | [], acc, ρ => k acc ρ
  | x :: r, acc, ρ => mg x ρ fun ρ1 => mt ρ1 fun b ρ2 => if b = true then me ρ2 fun d ρ3 => (isPr d = true ∧ acc.length < 16) ∧ mNcL mg mt me vs k r (acc ++ [d]) (wipeC ρ3 vs) else mNcL mg mt me vs k r acc (wipeC ρ2 vs)
def mNc (mi : MI) (mg : MG) (mt : MT) (me : ME) (vs : List Nat) : ME := fun ρ k => mi ρ fun xs ρ1 => mNcL mg mt me vs (fun acc ρ2 => ∀ ds, Dd acc ds → (∀ d ∈ ds, isPr d = true) → k (.list ds) ρ2) xs [] (wipeC ρ1 vs)
theorem mo_ncL {mg : MG} {mt : MT} {me : ME} {vs : List Nat} (hg : ∀ d ρ (k k' : Cs → Prop), (∀ ρ', k ρ' → k' ρ') → mg d ρ k → mg d ρ k') (ht : Mo mt) (he : Mo me) {k k' : List D → Cs → Prop} (w : ∀ d ρ', k d ρ' → k' d ρ') : ∀ (xs acc : List D) (ρ : Cs), mNcL mg mt me vs k xs acc ρ → mNcL mg mt me vs k' xs acc ρ
  | [], acc, ρ, h => w _ _ h
  | x :: r, acc, ρ, h => hg _ _ _ _ (fun ρ1 => ht ρ1 _ _ fun b ρ2 q => by
    cases b
    · exact mo_ncL hg ht he w r acc _ q
    · exact he ρ2 _ _ (fun d ρ3 z => ⟨z.1, mo_ncL hg ht he w r _ _ z.2⟩) q) h
theorem mo_nc {wi : MI} {g : TG} {mg : MG} {mt : MT} {me : ME} {vs ts : List Nat} (hi : Mo wi) (sg : SG K 0 ts g mg) (ht : Mo mt) (he : Mo me) : Mo (mNc wi mg mt me vs) := fun ρ k k' w => hi ρ _ _ fun xs ρ1 q => mo_ncL sg.mono ht he (fun acc ρ2 z ds a b => w _ _ (z ds a b)) xs [] _ q
theorem t_nc {wi : MI} {g : TG} {mg : MG} {mt : MT} {me : ME} {vs ts : List Nat} (hi : Mo wi) (sg : SG K 0 ts g mg) (hts : ∀ t ∈ ts, t ∈ vs) (ht : Mo mt) (he : Mo me) (σ : L2.St) (H : Hp) (Q : VK) (h : tE K (fN P w K) (mNc wi mg mt me vs) σ H Q) :
    tNc P w K (tI K wi) g (tT K mt) (tE K (fE K) me) vs σ H Q := by
  obtain ⟨G, ρ, R, h⟩ := h
  refine ⟨G, ρ, R, hi ρ _ _ (fun xs ρ1 q J G1 H1 R1 l1 wk L hL => ?_) h⟩
  have nG : G1 L = none := R1.gh.free hL
  have n0 : H L = none := l1.st.dom L hL
  have nw : ¬ Ow (wipe σ vs) (wipeC ρ1 vs) L := fun w => (R1.wipe vs).old w hL
  refine ⟨fun i k H' => k = xs.length - i ∧ i ≤ xs.length ∧ ∃ G' ρ' acc zs, Rel K (wipe σ vs) G' H' (wipeC ρ' vs) ∧ Same G1 G' ∧ Lk 0 σ G H ρ (wipe σ vs) G' H' (wipeC ρ' vs) ∧ H' L = some (NsO P w L (zs.map (·.1))) ∧ G' L = none ∧ ¬ Ow (wipe σ vs) (wipeC ρ' vs) L ∧ (ZsIn K G' zs ∧ Dd acc (zs.map (·.2)) ∧ zs.length ≤ acc.length) ∧
    mNcL mg mt me vs (fun acc ρ2 => ∀ ds, Dd acc ds → (∀ d ∈ ds, isPr d = true) → ∀ v G' H', Rel K σ G' H' ρ2 → Lk 0 σ G H ρ σ G' H' ρ2 → fN P w K H σ ρ2 G' H' v (.list ds) → Q v H') (xs.drop i) acc (wipeC ρ' vs),
    ⟨_, rfl, Nat.zero_le _, G1, ρ1, [], [], (R1.wipe vs).poke nG nw, .refl _, (l1.wipe vs).poke n0, upd_same, nG, nw, ⟨(fun _ h => nomatch h), dd_nil, Nat.zero_le _⟩, q⟩, ?_⟩
  rintro i k H2 ⟨rfl, hle, G2, ρ2, acc, zs, R2, g2, l2, hL2, nG2, nw2, ⟨za, zd, zl⟩, q2⟩
  obtain ⟨w1, w2, w3⟩ := wk G2 H2 g2 R2.gh
  by_cases hlt : i < xs.length
  · refine .inr ⟨w1 i hlt, fun H' => ∃ G' ρ' acc zs, Rel K (wipe σ vs) G' H' (wipeC ρ' vs) ∧ Same G1 G' ∧ Lk 0 σ G H ρ (wipe σ vs) G' H' (wipeC ρ' vs) ∧ H' L = some (NsO P w L (zs.map (·.1))) ∧ G' L = none ∧ ¬ Ow (wipe σ vs) (wipeC ρ' vs) L ∧ (ZsIn K G' zs ∧ Dd acc (zs.map (·.2)) ∧ zs.length ≤ acc.length) ∧
      mNcL mg mt me vs (fun acc ρ2 => ∀ ds, Dd acc ds → (∀ d ∈ ds, isPr d = true) → ∀ v G' H', Rel K σ G' H' ρ2 → Lk 0 σ G H ρ σ G' H' ρ2 → fN P w K H σ ρ2 G' H' v (.list ds) → Q v H') (xs.drop (i + 1)) acc (wipeC ρ' vs), fun H' z => ⟨xs.length - (i + 1), by omega, rfl, hlt, z⟩, fun x H3 y => ?_⟩
    obtain ⟨G3, dx, gh3, st3, hx, rx⟩ := w3 i x H3 hlt y
    have R3 := R2.pure st3 gh3
    have l3 := l2.trans (Lk.pure (n := 0) (ρ := wipeC ρ2 vs) (σ := wipe σ vs) st3)
    have hL3 : H3 L = some (NsO P w L (zs.map (·.1))) := st3.hh L _ (fun z => z) hL2
    have nG3 : G3 L = none := st3.fr L _ (fun z => z) hL2 nG2 rfl
    have e : xs.drop i = dx :: xs.drop (i + 1) := by
      rw [List.drop_eq_getElem_cons hlt]
      rw [List.getElem?_eq_getElem hlt] at hx
      rw [Option.some.inj hx]
    rw [e] at q2
    refine sg.run (wipe σ vs) G3 H3 (wipeC ρ2 vs) x dx _ R3 rx (sg.mono _ _ _ _ (fun ρ4 q4 σ4 R4 l4 c4 => ?_) q2)
    have ew : wipe σ4 vs = wipe σ vs := (c4.wipe hts).trans wipe_wipe
    refine ⟨ew, G3, ρ4, R4, ht ρ4 _ _ (fun b ρ5 q5 G5 H5 R5 l5 => ?_) q4⟩
    have own4 : ¬ Ow σ4 ρ4 L := fun w => by
      rcases l4.sb L w with z | z
      · exact nw2 z
      · rw [hL3] at z; cases z
    have hL5 : H5 L = some (NsO P w L (zs.map (·.1))) := l5.st.hh L _ own4 hL3
    have nG5 : G5 L = none := l5.st.fr L _ own4 hL3 nG3 rfl
    have l05 := l3.trans (l4.trans l5)
    cases b
    · have z : Lk 0 (wipe σ vs) G3 H3 (wipeC ρ2 vs) (wipe σ4 vs) G5 H5 (wipeC ρ5 vs) := (l4.trans l5).wipe vs
      have RR := R5.wipe vs
      have LL := l05.wipe vs
      rw [ew] at RR LL z
      refine ⟨G5, ρ5, acc, zs, RR, (g2.trans st3.gg).trans l5.st.gg, LL, hL5, nG5, fun w => ?_, ⟨zs_same (st3.gg.trans l5.st.gg) za, zd, zl⟩, q5⟩
      rcases z.sb L w with z | z
      · exact nw2 z
      · rw [hL3] at z; cases z
    · refine ⟨G5, ρ5, R5, he ρ5 _ _ (fun d ρ6 q6 v G6 H6 R6 l6 rv => ?_) q5⟩
      obtain ⟨⟨ip, few⟩, q6⟩ := q6
      have own5 : ¬ Ow σ4 ρ5 L := fun w => by
        rcases l5.sb L w with z | z
        · exact own4 z
        · rw [hL3] at z; cases z
      have hL6 : H6 L = some (NsO P w L (zs.map (·.1))) := l6.st.hh L _ own5 hL5
      have nG6 : G6 L = none := l6.st.fr L _ own5 hL5 nG5 rfl
      have za6 : ZsIn K G6 zs := zs_same ((st3.gg.trans l5.st.gg).trans l6.st.gg) za
      obtain ⟨c, rfl, sq⟩ := pr_name R6.gh rv ip
      refine ⟨c, nkeys (prOf d), zs.map (·.1), rfl, sq, hL6, zs_tu R6.gh za6, by rw [List.length_map]; omega, fun L' gr => ?_⟩
      obtain ⟨zs', rfl, za', zd', zl'⟩ := zs_grew za6 zd rv ip gr
      have z : Lk 0 (wipe σ vs) G3 H3 (wipeC ρ2 vs) (wipe σ4 vs) G6 H6 (wipeC ρ6 vs) := ((l4.trans l5).trans l6).wipe vs
      have RR := R6.wipe vs
      have LL := (l05.trans l6).wipe vs
      rw [ew] at RR LL z
      have nw6 : ¬ Ow (wipe σ vs) (wipeC ρ6 vs) L := fun w => by
        rcases z.sb L w with z | z
        · exact nw2 z
        · rw [hL3] at z; cases z
      exact ⟨G6, ρ6, acc ++ [d], zs', RR.poke nG6 nw6, ((g2.trans st3.gg).trans l5.st.gg).trans l6.st.gg, LL.poke n0, upd_same, nG6, nw6, ⟨za', zd', by simp; omega⟩, q6⟩
  · have e : i = xs.length := by omega
    subst e
    rw [List.drop_length] at q2
    obtain ⟨Rf, of⟩ := R2.unwipe
    exact .inl ⟨w2, q2 _ zd (fun d m => by obtain ⟨z, hz, rfl⟩ := List.mem_map.mp m; exact (za z hz).2.1) _ G2 H2 Rf ⟨l2.st, fun p w => l2.sb p (of p w), fun _ h => absurd h (Nat.not_lt_zero _)⟩ ⟨L, zs, rfl, hL2, rfl, za⟩⟩
end
section
variable {K : PySem.W.Frag} {X : Cx}
/-- {elt for tg in iter if ifs} -/
theorem se_nc {elt tg iter : Expr} {ifs : List Expr} {scope : Scope} {own : List (Str × Nat)} {pos : Pos} {wi : MI} {g : TG} {mg : MG} {mt : MT} {me : ME} {ts : List Nat} (hu : X.A.units + 64 < cLine) (hK : X.K = K) (hc : X.calm = true) (hN : X.N.Nodup) (hi : SI K X tg iter wi) (ok : BlkOk X.N X.env.scope scope own)
    (hg : ∀ (s : Shared) (H : Hp) (C : Addr) (cl : List (Str × Addr)) (fp : List Addr), PG (X.blk s H scope (compEnvC scope cl C X.env) fp) tg g) (sg : SG K 0 ts g mg) (hts : ∀ t ∈ ts, t ∈ own.map (·.2))
    (ht : ∀ (s : Shared) (H : Hp) (C : Addr) (cl : List (Str × Addr)) (fp : List Addr), STs K (X.blk s H scope (compEnvC scope cl C X.env) fp) ifs mt)
    (he : ∀ (s : Shared) (H : Hp) (C : Addr) (cl : List (Str × Addr)) (fp : List Addr), SE K (fE K) (X.blk s H scope (compEnvC scope cl C X.env) fp) elt me) (hs : ∀ x, foldedSetIterable iter X.env x = pure x := by intro _; rfl) :
    SE K (fN X.prog X.w K) X (.SetComp elt [⟨tg, iter, ifs, 0⟩] scope pos) (mNc wi mg mt me (own.map (·.2))) := by
  subst hK
  have mt' := (ht X.s_0 X.H_0 0 [] []).mono
  have me' := (he X.s_0 X.H_0 0 [] []).mono
  exact ⟨mo_nc hi.mono sg mt' me', pe_weak (pe_nc hu hc hN hi.pi ok hg (fun s H C cl fp => (ht s H C cl fp).pts) (fun s H C cl fp => (he s H C cl fp).pe) hs) (t_nc hi.mono sg hts mt' me')⟩
/-- sorted(a new set of names) -/
theorem callr_sortedNs (hc : X.calm = true) : CallR X (.builtin "sorted") (fun xs H Q => ∃ (x : V) (G : Hp) (zs : List Zr), xs = [x] ∧ Same G H ∧ (∃ p, x = .ref p ∧ H p = some (NsO X.prog X.w p (zs.map (·.1)))) ∧ ZsIn X.K G zs ∧ oSorted_pairs (.list (zs.map (·.2))) (Then X.K (pF X.K) G H Q)) := by
  intro pins s σ H xs us Q I r h
  obtain ⟨x, G, zs, rfl, g, ⟨p, rfl, hp⟩, za, hall, q⟩ := h
  have tu := zs_tu g za
  let kf : Value → Str × Int := fun v => open Classical in if h : ∃ n, ∃ b k, v = .ref b ∧ (b, k) ∈ zs.map (·.1) ∧ k = nkeys n then Classical.choose h else (Str.empty, 0)
  have kf_at : ∀ z ∈ zs, z.1.2 = nkeys (kf (.ref z.1.1)) := fun z m => by
    have ex : ∃ n, ∃ b k, (Value.ref z.1.1) = .ref b ∧ (b, k) ∈ zs.map (·.1) ∧ k = nkeys n := ⟨prOf z.2, z.1.1, z.1.2, rfl, List.mem_map.mpr ⟨z, m, rfl⟩, (za z m).2.2⟩
    have e : kf (.ref z.1.1) = Classical.choose ex := dif_pos ex
    obtain ⟨b, k, e1, e2, e3⟩ := Classical.choose_spec ex
    cases e1
    have t1 := tu z.1 (List.mem_map.mpr ⟨z, m, rfl⟩)
    have t2 := tu _ e2
    have e4 := kVs_inj (I.tuple_inj t1 t2)
    rw [e, ← e3]
    exact e4
  refine cr_sortNs hc pins s σ H _ us Q I r ⟨p, zs.map (·.1), kf, rfl, hp, fun y m => ?_, fun L' p' pm nd pw np => ?_⟩
  · obtain ⟨z, hz, rfl⟩ := List.mem_map.mp m
    exact ⟨tu _ m, kf_at z hz⟩
  · obtain ⟨zs', rfl, pz⟩ := perm_pull (f := fun z : Zr => z.1) pm
    have za' : ZsIn X.K G zs' := fun z m => za z (pz.mem_iff.mp m)
    have ra : ∀ {zs : List Zr}, ZsIn X.K G zs → RpAll X.K G ((zs.map (·.1)).map fun q => V.ref q.1) (zs.map (·.2)) := by
      intro zs
      induction zs with
      | nil => intro _; exact .nil
      | cons z zs ih => intro h; exact .cons (h z List.mem_cons_self).1 (ih fun y m => h y (List.mem_cons_of_mem _ m))
    have pw2 : (zs'.map (·.2)).Pairwise (fun x y => ltN (prOf y) (prOf x) = false) := by
      refine List.pairwise_map.mpr (List.Pairwise.imp_of_mem (fun {a b} ha hb h => ?_) (List.pairwise_map.mp pw))
      have ea := kf_at a (pz.mem_iff.mp ha)
      have eb := kf_at b (pz.mem_iff.mp hb)
      rw [(za' a ha).2.2] at ea
      rw [(za' b hb).2.2] at eb
      rw [nkeys_inj ea, nkeys_inj eb]
      exact h
    exact newF g (q _ (pz.map (·.2)) pw2) np (.lst (ra za'))
theorem se_sorted_set {a : Expr} {ma : ME} {pos p : Pos} (hK : X.K = K) (hc : X.calm = true) (hg : Gl X "sorted") (hm : X.mg "sorted" = none) (ha : SE K (fN X.prog X.w K) X a ma) (hs : starEach [a] X.env = [(false, eval a X.env)] := by rfl) (hpl : (backTo pos (starEach [] X.env)).any (·.1) = false := by rfl) :
    SE K (fF K) X (.Call (.Name "sorted" p) [a] [] pos) (mUn oSorted_pairs ma) := by
  subst hK
  refine ⟨mo_un mo_sortedP ha.mono, pe_weak (pe_callB (callr_sortedNs hc) hg hm (by decide +kernel) (pa_cons ha.pe pa_nil hs) (by decide) (by decide) hs hpl) fun σ H Q h => ?_⟩
  obtain ⟨G, ρ, R, h⟩ := h
  refine ⟨G, ρ, R, ha.mono ρ _ _ (fun da ρ1 q y G1 H1 R1 l1 ry => ?_) h⟩
  obtain ⟨p, zs, rfl, hp, rfl, za⟩ := ry
  refine ⟨_, G1, zs, rfl, R1.gh, ⟨p, rfl, hp⟩, za, mo_sortedP _ _ _ (fun d q v G2 H2 gh st pv => ?_) q⟩
  exact q v G2 H2 (R1.pure st gh) (l1.trans (.pure st)) (embF σ ρ ρ1 G H G1 H1 G2 H2 v d R1 l1 pv)
end
end Dl

set_option Elab.async false
set_option linter.all false
set_option maxRecDepth 100000
set_option maxHeartbeats 4000000
/-! Defs that hand back a new list on more than one road; isinstance(l, list); {k: v, k2: v2}; sorted pairs of texts. -/
namespace Dl
open PySem PySem.Spec PyProof.Rows L2 Br
/-! ### a def whose list is its caller's own, handed back early or late, made at the end or before -/
def tSG (K : PySem.W.Frag) (m : MS) : TS := fun T σ H => ∃ G ρ E, Rel K σ G H ρ ∧ m E ρ ∧ ∀ v d σ' G' H' ρ', Rel K σ' G' H' ρ' → Lk 0 σ G H ρ σ' G' H' ρ' → (∃ p o, v = .ref p ∧ (H p = none ∨ Ow σ ρ p) ∧ H' p = some o ∧ G' p = none ∧ ObR K G' o d) → E.rt d ρ' → T.rt v H'
structure SBG (K : PySem.W.Frag) (X : Cx) (sts : List Stmt) (m : MS) : Prop where
  mono : ∀ (ρ : Cs) (E E' : Dn), (∀ d ρ', E.rt d ρ' → E'.rt d ρ') → m E ρ → m E' ρ
  ps : PSs X sts (tSG K m)
section
variable {K : PySem.W.Frag} {X : Cx} {st : Stmt} {sts a : List Stmt} {ms mu ma mb : MS} {e c : Expr} {m : ME} {tm : MT} {pos : Pos}
theorem sbg_ret (h : SE K (fF K) X e m) : SBG K X [.Return (some e) pos] (sRet m) :=
  ⟨fun ρ E E' w => h.mono ρ _ _ w, pss_weak (pss_one (ps_ret h.pe)) fun T σ H ⟨G, ρ, E, R, q, b⟩ => ⟨G, ρ, R, h.mono ρ _ _ (fun d ρ1 q v G1 H1 R1 l r => b v d σ G1 H1 ρ1 R1 l (by
    obtain ⟨p, o, e1, h0, _, hp, gp, ob⟩ := r
    exact ⟨p, o, e1, .inl h0, hp, gp, ob⟩) q) q⟩⟩
/-- a list of one's own handed back -/
def sRetO (i : Nat) : MS := fun E ρ => match ρ[i]? with
  | some (.own d) => E.rt d ρ
  | _ => False
theorem sbg_own {i : Nat} (h : PE X e (tVar i)) : SBG K X [.Return (some e) pos] (sRetO i) := by
  refine ⟨fun ρ E E' w q => ?_, pss_weak (pss_one (ps_ret h)) fun T σ H ⟨G, ρ, E, R, q, b⟩ => ?_⟩
  · unfold sRetO at q ⊢
    split at q
    · exact w _ _ q
    · exact q.elim
  · unfold sRetO at q
    split at q
    · rename_i d e1
      obtain ⟨p, o, hv, hp, gp, ob⟩ := R.own i d e1
      exact ⟨_, hv, b _ d σ G H ρ R .refl ⟨p, o, rfl, .inr ⟨i, d, e1, hv⟩, hp, gp, ob⟩ q⟩
    · exact q.elim
theorem sbg_cons (h : SS K 0 X st ms) (g : SBG K X sts mu) : SBG K X (st :: sts) (sSeqF ms mu) := by
  refine ⟨fun ρ E E' w => h.mono ρ _ _ (fun ρ1 => g.mono ρ1 _ _ w) (fun _ _ z => z) (fun _ z => z) (fun _ z => z), pss_weak (pss_cons h.ps g.ps) fun T σ H ⟨G, ρ, E, R, q, b⟩ => ?_⟩
  refine ⟨G, ρ, _, R, q, fun σ1 G1 H1 ρ1 R1 l1 q1 => ⟨G1, ρ1, E, R1, q1, fun v d σ2 G2 H2 ρ2 R2 l2 f => b v d σ2 G2 H2 ρ2 R2 (l1.trans l2) ?_⟩, fun _ _ _ _ _ _ _ _ _ z => z.elim, fun _ _ _ _ _ _ z => z.elim, fun _ _ _ _ _ _ z => z.elim⟩
  obtain ⟨p, o, e, h0, r⟩ := f
  refine ⟨p, o, e, ?_, r⟩
  rcases h0 with h0 | w
  · exact .inl (l1.st.dom p h0)
  · exact (l1.sb p w).symm
/-- a road that ends early -/
def sIfF (tm : MT) (ma mb : MS) : MS := fun E ρ => tm ρ fun b ρ1 => if b = true then ma E ρ1 else mb E ρ1
theorem sbg_if (hc : ST K X c tm) (ha : SBG K X a ma) (hb : SBG K X sts mb) : SBG K X (.If c a [] pos :: sts) (sIfF tm ma mb) := by
  refine ⟨fun ρ E E' w => hc.mono ρ _ _ fun b ρ1 q => ?_, pss_weak (pss_cons (ps_if hc.pt ha.ps pss_nil) hb.ps) fun T σ H ⟨G, ρ, E, R, q, f⟩ => ⟨G, ρ, R, hc.mono ρ _ _ (fun b ρ1 q G1 H1 R1 l => ?_) q⟩⟩
  · cases b
    · exact hb.mono ρ1 _ _ w q
    · exact ha.mono ρ1 _ _ w q
  · have up : ∀ {p : Addr}, (H1 p = none ∨ Ow σ ρ1 p) → (H p = none ∨ Ow σ ρ p) := fun {p} z => z.elim (fun h0 => .inl (l.st.dom p h0)) fun w => (l.sb p w).symm
    cases b
    · exact ⟨G1, ρ1, E, R1, q, fun v d σ2 G2 H2 ρ2 R2 l2 ⟨p, o, e1, h0, r⟩ => f v d σ2 G2 H2 ρ2 R2 (l.trans l2) ⟨p, o, e1, up h0, r⟩⟩
    · exact ⟨G1, ρ1, E, R1, q, fun v d σ2 G2 H2 ρ2 R2 l2 ⟨p, o, e1, h0, r⟩ => f v d σ2 G2 H2 ρ2 R2 (l.trans l2) ⟨p, o, e1, up h0, r⟩⟩
end
section
variable {P : Program} {w : World} {K : PySem.W.Frag} {mg : Str → Option Value} {base : Heap} {k : Nat} {f : Addr} {fd : FuncData} {ps : List Str}
theorem fn_ofG {x qual : Str} {st : Stmt} {N : List Str} {np m : Nat} {b : MS} (Fu : Fun K x qual st f fd) (S : FnScope N ps (defScope st)) (hp : ps.length = np) (hm : N.length - ps.length = m)
    (body : ∀ (cdv : Value) (Ar : Around) (out : List PySem.Env) (s0 : Shared) (H : Hp) (E : XK), Bare Ar → Room k (Ar.deeper (envOfC qual (defScope st) s0.heap.objs.size f cdv)) →
      SBG K (cxOf CX0 P w K mg base N qual (defScope st) f cdv Ar out s0 H E).nox (defBody st) b) : FnF P w K mg base (k + 1) f fd ps (FofF np m b) := by
  subst hp hm
  refine ⟨okG Fu S (fun vs H Q E h => h.1) fun cdv Ar out s0 H vs Q E hG hr hsp => ?_, fun ds k k' w h => ?_, fun ds k h => h.1⟩
  · obtain ⟨hl, G, ds, g, r, hd, k0, w0, q⟩ := hsp
    have sb := body cdv Ar out s0 H E hG hr
    have R0 := (rel_fro g r).more (N.length - ps.length)
    have e0 : vs.map some ++ List.replicate (N.length - ps.length) none = L2.start N vs := by unfold L2.start; rw [hl]
    have nu : ∀ (i : Nat) (d : D), (List.replicate (N.length - ps.length) Cell.un)[i]? ≠ some (.own d) := fun i d z => by
      rw [List.getElem?_replicate] at z
      split at z <;> cases z
    rw [e0] at R0
    have no : ∀ p, ¬ Ow (L2.start N vs) (ds.map .fro ++ List.replicate (N.length - ps.length) .un) p := fun p => by rw [← e0]; exact ow_fro nu
    refine ⟨_, sb.ps, G, _, _, R0, q, fun v d σ' G' H' ρ' R' l f hk => ?_⟩
    obtain ⟨p, o, ev, h0, hp, gp, ob⟩ := f
    exact w0 d hk v G' H' R'.gh ⟨l.st.gg, fun a u _ z => l.st.hh a u (no a) z, fun a u _ z => l.st.fr a u (no a) z, l.st.dom⟩ ⟨p, o, ev, h0.resolve_right (no p), hp, gp, ob⟩
  · obtain ⟨h1, k0, h2, h3⟩ := h
    exact ⟨h1, k0, fun d z => w d (h2 d z), h3⟩
end
section
variable {K : PySem.W.Frag} {X : Cx} {a b c e : Expr} {ma mb mc me : ME} {pos : Pos}
/-! ### {k: v, k2: v2} -/
def mDisp2 (ma mb mc me : ME) : ME := fun ρ k => ma ρ fun da ρ1 => mb ρ1 fun db ρ2 => mc ρ2 fun dc ρ3 => me ρ3 fun de ρ4 => match keyOf da, keyOf dc with
  | some q, some r => q ≠ r ∧ k (.dict [(keyD q, db), (keyD r, de)]) ρ4
  | _, _ => False
theorem se_disp2 (ha : SE K (fE K) X a ma) (hb : SE K (fE K) X b mb) (hc : SE K (fE K) X c mc) (he : SE K (fE K) X e me) : SE K (fF K) X (.Dict [some a, some c] [b, e] pos) (mDisp2 ma mb mc me) := by
  constructor
  · intro ρ k k' w
    refine ha.mono ρ _ _ fun da ρ1 => hb.mono ρ1 _ _ fun db ρ2 => hc.mono ρ2 _ _ fun dc ρ3 => he.mono ρ3 _ _ fun de ρ4 q => ?_
    split at q
    · exact ⟨q.1, w _ _ q.2⟩
    · exact q.elim
  · refine pe_weak (pe_disp (pps_cons ha.pe hb.pe (pps_cons hc.pe he.pe pps_nil)) rfl rfl (by simp) (by simp)) fun σ H Q ⟨G, ρ, R, q⟩ p np => ?_
    have gp : G p = none := R.gh.free np
    have nw : ¬ Ow σ ρ p := fun w => R.old w np
    have R0 := R.poke (o := .dK []) gp nw
    have l0 : Lk 0 σ G H ρ σ G (upd H p (.dK [])) ρ := Lk.refl.poke np
    refine ⟨G, ρ, R0, ha.mono ρ _ _ (fun da ρ1 q x G1 H1 R1 l1 rx => ⟨G1, ρ1, R1, hb.mono ρ1 _ _ (fun db ρ2 q y G2 H2 R2 l2 ry => ⟨G2, ρ2, R2, hc.mono ρ2 _ _ (fun dc ρ3 q x2 G3 H3 R3 l3 rx2 => ⟨G3, ρ3, R3, he.mono ρ3 _ _ (fun de ρ4 q y2 G4 H4 R4 l4 ry2 => ?_) q⟩) q⟩) q⟩) q⟩
    have l14 := ((l1.trans l2).trans l3).trans l4
    have hp4 : H4 p = some (.dK []) := l14.st.hh p _ nw upd_same
    have gp4 : G4 p = none := l14.st.fr p _ nw upd_same gp rfl
    have nw4 : ¬ Ow σ ρ4 p := fun w => by
      rcases l14.sb p w with z | z
      · exact nw z
      · rw [upd_same] at z; cases z
    split at q
    · rename_i k1 k2 e1 e2
      obtain ⟨ne, q⟩ := q
      rw [keyOf_inv e1] at rx
      rw [keyOf_inv e2] at rx2
      have ex := key_val (H := H1) (.fro rx)
      have ex2 := key_val (H := H3) (.fro rx2)
      subst ex
      subst ex2
      have em : mergeK [] [(k1, y), (k2, y2)] = [(k1, y), (k2, y2)] := by
        show putK (putK [] k1 y) k2 y2 = _
        unfold putK
        simp [ne]
      refine ⟨hp4, [(k1, y), (k2, y2)], rfl, by simp, ?_⟩
      rw [em]
      refine q _ G4 _ (R4.poke gp4 nw4) ((l0.trans l14).poke np) ⟨p, _, rfl, np, nw4, upd_same, gp4, ?_⟩
      exact .dK (ks := [k1, k2]) (xs := [y, y2]) (ds := [db, de]) rfl (.cons (rp_same (l3.trans l4).st.gg ry) (.cons ry2 .nil))
    · exact q.elim
/-! ### isinstance(l, list) of a list of one's own -/
def mIsList (i : Nat) : ME := fun ρ k => match ρ[i]? with
  | some (.own (.list _)) => k (.bool true) ρ
  | _ => False
theorem se_islist {i : Nat} {a : Expr} {p p2 pos : Pos} (hK : X.K = K) (hg : Gl X "isinstance") (hm : X.mg "isinstance" = none) (hg2 : Gl X "list") (hm2 : X.mg "list" = none) (ha : PE X a (tVar i)) (hs : starEach [a, .Name "list" p2] X.env = [(false, eval a X.env), (false, eval (.Name "list" p2) X.env)] := by rfl) (hs2 : starEach [.Name "list" p2] X.env = [(false, eval (.Name "list" p2) X.env)] := by rfl) (hpl : (backTo pos (starEach [.Name "list" p2] X.env)).any (·.1) = false := by rfl) :
    SE K (fE K) X (.Call (.Name "isinstance" p) [a, .Name "list" p2] [] pos) (mIsList i) := by
  subst hK
  refine ⟨fun ρ k k' w q => ?_, pe_weak (pe_callB call_isi hg hm (by decide +kernel) (pa_cons ha (pa_cons (pe_bltn (v := .ty "list") hg2 hm2 (by decide +kernel) rfl) pa_nil hs2) hs) (by decide) (by decide) hs hpl) fun σ H Q ⟨G, ρ, R, q⟩ => ?_⟩
  · unfold mIsList at q ⊢
    split at q
    · exact w _ _ q
    · exact q.elim
  · unfold mIsList at q
    split at q
    · rename_i ps e
      obtain ⟨p, o, hv, hp, gp, ob⟩ := R.own i _ e
      have fin : Q (.bl true) H := q _ G H R .refl (.bl true)
      cases ob with
      | lst l => exact ⟨_, hv, ⟨_, .ty "list", .type "list", .type "list", true, rfl, .ty "list", .base (.lst hp), rfl, fin⟩⟩
    · exact q.elim
end
end Dl

set_option Elab.async false
set_option linter.all false
set_option maxRecDepth 100000
set_option maxHeartbeats 4000000
/-! sorted(l), l a list of pairs of texts. -/
namespace Dl
open PySem PySem.Spec PyProof.Rows L2 Br
def tkeys (n : Str × Str) : List Key := [.inr n.1, .inr n.2]
def ltT (x y : Str × Str) : Bool := lexK (tkeys x) (tkeys y)
def TtAt (K : PySem.W.Frag) (H : Hp) (v : V) (n : Str × Str) : Prop := ∃ b, v = .ref b ∧ SqT K H b ((tkeys n).map kV)
def rawT (n : Str × Str) : List (Int ⊕ List Nat) := [.inr n.1.cps.toList, .inr n.2.cps.toList]
theorem txt_lt (x y : Str) : decide (x.cps.toList < y.cps.toList) = ltKey (.inr x) (.inr y) := rfl
theorem txt_tri {x y : Str} (e : x ≠ y) (h : ¬ x.cps.toList < y.cps.toList) : y.cps.toList < x.cps.toList := by
  rcases Std.le_iff_lt_or_eq.mp (List.not_lt.mp h) with z | z
  · exact z
  · exact absurd (str_ext z.symm) e
theorem rawT_lt (x y : Str × Str) : (listOrd itemOrd).blt (rawT x) (rawT y) = ltT x y := by
  obtain ⟨x, n⟩ := x
  obtain ⟨y, m⟩ := y
  show (decide (x.cps.toList < y.cps.toList) || (!decide (y.cps.toList < x.cps.toList) && (decide (n.cps.toList < m.cps.toList) || (!decide (m.cps.toList < n.cps.toList) && false)))) = (if (Sum.inr x : Key) = Sum.inr y then (if (Sum.inr n : Key) = Sum.inr m then false else decide (n.cps.toList < m.cps.toList)) else decide (x.cps.toList < y.cps.toList))
  have irr : ∀ z : Str, decide (z.cps.toList < z.cps.toList) = false := fun z => decide_eq_false (List.lt_irrefl _)
  rw [Bool.and_false, Bool.or_false]
  by_cases e : x = y
  · subst e
    rw [if_pos rfl, irr]
    by_cases k : n = m
    · subst k
      rw [if_pos rfl, irr]; rfl
    · rw [if_neg (fun z => k (Sum.inr.inj z))]; rfl
  · rw [if_neg (fun z => e (Sum.inr.inj z))]
    by_cases h : x.cps.toList < y.cps.toList
    · rw [decide_eq_true h]; rfl
    · rw [decide_eq_false h, decide_eq_true (txt_tri e h)]; rfl
section
variable {X : Cx}
def rSortedTT (K : PySem.W.Frag) : List V → Hp → VK → Prop := fun vs H Q => ∃ (a : Addr) (us : List V) (kf : V → Str × Str), vs = [.ref a] ∧ SqL K H a us ∧ (∀ u ∈ us, TtAt K H u (kf u)) ∧
  ∀ us' p, us'.Perm us → us'.Pairwise (fun x y => ltT (kf y) (kf x) = false) → H p = none → Q (.ref p) (upd H p (.lst us'))
theorem cr_sortedTT : CallR X (.builtin "sorted") (rSortedTT X.K) := by
  intro pins s σ H vs ws Q I r h
  obtain ⟨a, us, kf, rfl, hs, hx, q⟩ := h
  obtain ⟨its, rv, hl, hz⟩ := I.list hs
  obtain ⟨u, rfl, ru⟩ := vals1 r
  cases (show u = Value.ref a from ru)
  obtain ⟨e1, e2⟩ := refs_back rv fun x m => (hx x m).imp fun t z => z.1
  have look : ∀ v ∈ its, ∃ t o t1 t2 n, v = .ref t ∧ s.heap.get? t = some o ∧ o.cls = .type "tuple" ∧ o.data = .seq #[.str (kf (backV v)).1 t1, .str (kf (backV v)).2 t2] n := by
    intro v hv
    obtain ⟨t, rfl⟩ := e2 v hv
    obtain ⟨b, eb, hb⟩ := hx (.ref t) (by rw [e1]; exact List.mem_map.mpr ⟨_, hv, rfl⟩)
    cases eb
    obtain ⟨its2, r2, ⟨o, ho, hc, n, hd⟩, _⟩ := I.tuple hb
    obtain ⟨u1, u2, rfl, ⟨t1, rfl⟩, ⟨t2, rfl⟩⟩ := vals2 r2
    exact ⟨t, o, t1, t2, n, rfl, ho, hc, hd⟩
  let shape : Nat → Bool := fun _ => true
  obtain ⟨fs, ht⟩ : ∃ fs, TupsOf s.heap shape its fs := tups_of fun v hv => by
    obtain ⟨t, o, t1, t2, n, rfl, ho, hc, hd⟩ := look v hv
    exact ⟨_, t, o, _, n, rfl, ho, hc, hd, rfl, fun z => (by cases z), fun _ => ⟨_, _, rfl⟩⟩
  have key : ∀ v ∈ its, G.tupKeyC s.heap shape v = some (rawT (kf (backV v))) := fun v hv => by
    obtain ⟨t, o, t1, t2, n, rfl, ho, hc, hd⟩ := look v hv
    unfold G.tupKeyC
    have it : G.isTupObj s.heap (.ref t) = true := by
      unfold G.isTupObj
      simp [ho, hc]
    rw [if_pos it]
    unfold tupKey
    simp only [ho, hd]
    rfl
  refine G.sorted_tups hl.isList ht (fun v hv => ⟨_, key v hv⟩) (by rw [← rv.length]; exact hz) fun st' hp hso _ => ?_
  have zz : (pairsOf its).toList = its.zip its := pairsOf_toList its
  have hpl : (arrOf st').toList.Perm (its.zip its) := by rw [← zz]; exact hp.toList
  have own : ∀ p ∈ (arrOf st').toList, p.1 = p.2 ∧ p.1 ∈ its := fun p hm => mem_zip_self (hpl.mem_iff.mp hm)
  have sz : (arrOf st').size = its.length := by
    have := hpl.length_eq
    rw [Array.length_toList, List.length_zip] at this
    omega
  have outp : ((arrOf st').toList.map (·.2)).Perm its := by
    have z := hpl.map (·.2)
    rwa [List.map_snd_zip (Nat.le_refl _)] at z
  have oute : ((arrOf st').map (·.2)).toList = (arrOf st').toList.map (·.2) := Array.toList_map
  have h3 : ∀ u ∈ (arrOf st').toList.map (·.2), ∃ a, u = Value.ref a := fun u hu => e2 u (outp.mem_iff.mp hu)
  obtain ⟨e, hn⟩ := sortedAll_at s.heap its ((arrOf st').map (·.2))
  have fresh : s.heap.objs.size ≤ s.heap.objs.size + 1 := Nat.le_succ _
  have lenO : ((arrOf st').toList.map (·.2)).length = us.length := by rw [outp.length_eq, ← rv.length]
  refine ⟨.ref (s.heap.objs.size + 1), upd H (s.heap.objs.size + 1) (.lst (((arrOf st').toList.map (·.2)).map backV)), I.laid (t' := s.toks) (fun b o z => sortedAll_old z) fresh ⟨?_, (arrOf st').toList.map (·.2), e, vals_back h3, ?_⟩, rfl, q _ _ ?_ ?_ (I.hok.fresh fresh)⟩
  · rw [List.length_map, lenO]; exact hz
  · rw [hn, ← oute, Array.toArray_toList]
  · rw [e1]; exact outp.map backV
  · rw [List.pairwise_iff_getElem]
    intro i j hi hj hij
    have hi' : i < (arrOf st').size := by
      rw [List.length_map, List.length_map, Array.length_toList] at hi
      exact hi
    have hj' : j < (arrOf st').size := by
      rw [List.length_map, List.length_map, Array.length_toList] at hj
      exact hj
    have kk : ∀ n (hn : n < (arrOf st').size), KK (G.tupKindC s.heap shape) (arrOf st') n = rawT (kf (backV ((arrOf st')[n]).2)) := fun n hn => by
      have m : (arrOf st')[n] ∈ (arrOf st').toList := by
        rw [← Array.getElem_toList]
        exact List.getElem_mem _
      obtain ⟨o1, o2⟩ := own _ m
      unfold KK
      rw [Array.getElem?_eq_getElem hn]
      show (G.tupKeyC s.heap shape ((arrOf st')[n]).1).getD [] = _
      rw [key _ o2, ← o1]
      rfl
    have z := hso i j (Nat.le_of_lt hij) (by
      have : (pairsOf its).size = its.length := by rw [← Array.length_toList, zz, List.length_zip]; omega
      omega)
    rw [kk i hi', kk j hj'] at z
    have z' : (listOrd itemOrd).blt (rawT (kf (backV ((arrOf st')[j]).2))) (rawT (kf (backV ((arrOf st')[i]).2))) = false := z
    rw [rawT_lt] at z'
    simp only [List.getElem_map, Array.getElem_toList]
    exact z'
end
def isTT : D → Bool
  | .tuple _ [.str _, .str _] => true
  | _ => false
def ttOf : D → Str × Str
  | .tuple _ [.str x, .str y] => (x, y)
  | _ => (Str.empty, Str.empty)
section
variable {K : PySem.W.Frag} {X : Cx} {a : Expr} {ma : ME} {pos : Pos}
theorem isTT_at {d : D} (h : isTT d = true) : ∃ c x y, d = .tuple c [.str x, .str y] ∧ ttOf d = (x, y) := by
  unfold isTT at h
  split at h
  · exact ⟨_, _, _, rfl, rfl⟩
  · cases h
theorem tt_name {G H : Hp} (g : Same G H) {v : V} {d : D} (r : Rp K G v d) (h : isTT d = true) : TtAt K H v (ttOf d) := by
  obtain ⟨c, x, y, rfl, e⟩ := isTT_at h
  rw [e]
  obtain ⟨b, ys, rfl, sq, rr, _⟩ := rp_tup r
  obtain ⟨y, z, rfl, r1, r2⟩ := rps2 rr
  cases r1
  cases r2
  exact ⟨b, rfl, sqT_same g sq⟩
def oSorted_tt : O1 := fun a k => match a with
  | .list ds => ds.all isTT = true ∧ ∀ ds' : List D, ds'.Perm ds → ds'.Pairwise (fun x y => ltT (ttOf y) (ttOf x) = false) → k (.list ds')
  | _ => False
theorem mo_sortedTT : Mo1 oSorted_tt := fun a k k' w h => by cases a <;> first | exact h.elim | exact ⟨h.1, fun ds' p q => w _ (h.2 ds' p q)⟩
open Classical in
noncomputable def tnOf (K : PySem.W.Frag) (H : Hp) (v : V) : Str × Str := if h : ∃ n, TtAt K H v n then choose h else (Str.empty, Str.empty)
theorem tnOf_at {H : Hp} {v : V} {n : Str × Str} (h : TtAt K H v n) : TtAt K H v (tnOf K H v) := by
  unfold tnOf
  rw [dif_pos ⟨n, h⟩]
  exact Classical.choose_spec (⟨n, h⟩ : ∃ n, TtAt K H v n)
theorem tt_inj {pins : List (Addr × Obj)} {σ : L2.St} {H : Hp} {s : Shared} {v : V} {n m : Str × Str} (I : Inv X pins σ H s) (h : TtAt X.K H v n) (k : TtAt X.K H v m) : n = m := by
  obtain ⟨b, rfl, h⟩ := h
  obtain ⟨c, e, k⟩ := k
  cases e
  have := kVs_inj (I.tuple_inj h k)
  unfold tkeys at this
  cases n
  cases m
  simp at this
  rw [this.1, this.2]
theorem callr_sortedTT : CallR X (.builtin "sorted") (fun xs H Q => ∃ x, xs = [x] ∧ rO1 X.K (pF X.K) oSorted_tt x H Q) := by
  intro pins s σ H xs us Q I r h
  obtain ⟨x, rfl, G, d, g, hx, q⟩ := h
  cases d <;> first | exact q.elim | skip
  rename_i ds
  obtain ⟨p, vs, rfl, rd, ra⟩ := vw_list g hx
  obtain ⟨hall, q⟩ := q
  have nm : ∀ {vs : List V} {ds : List D}, RpAll X.K G vs ds → ds.all isTT = true → ∀ u ∈ vs, ∃ n, TtAt X.K H u n := by
    intro vs
    induction vs with
    | nil => intro ds _ _ u hu; cases hu
    | cons v vs ih =>
      intro ds r h u hu
      cases r with
      | cons r1 r2 =>
        rw [List.all_cons, Bool.and_eq_true] at h
        rcases List.mem_cons.mp hu with z | z
        · subst z; exact ⟨_, tt_name g r1 h.1⟩
        · exact ih r2 h.2 u z
  refine cr_sortedTT pins s σ H _ us Q I r ⟨p, vs, tnOf X.K H, rfl, .inl rd, fun u hu => ?_, fun us' n pm pw nn => ?_⟩
  · obtain ⟨m, hm⟩ := nm ra hall u hu
    exact tnOf_at hm
  · obtain ⟨ds', pd, rs'⟩ := perm_rps pm ra
    have hall' : ds'.all isTT = true := List.all_eq_true.mpr fun d hd => List.all_eq_true.mp hall d (pd.mem_iff.mp hd)
    have mp : ∀ {vs : List V} {ds : List D}, RpAll X.K G vs ds → ds.all isTT = true → ds.map ttOf = vs.map (tnOf X.K H) := by
      intro vs
      induction vs with
      | nil => intro ds r _; cases r; rfl
      | cons v vs ih =>
        intro ds r h
        cases r with
        | cons r1 r2 =>
          rw [List.all_cons, Bool.and_eq_true] at h
          have e := tt_name g r1 h.1
          rw [List.map_cons, List.map_cons, ih r2 h.2, tt_inj I e (tnOf_at e)]
    have em := mp rs' hall'
    have pw1 : (us'.map (tnOf X.K H)).Pairwise (fun x y => ltT y x = false) := List.pairwise_map.mpr pw
    rw [← em] at pw1
    exact newF g (q ds' pd (List.pairwise_map.mp pw1)) nn (.lst rs')
theorem se_sorted_tt {k : Nat} {p : Pos} (hK : X.K = K) (hr : Room k X.A) (hg : Gl X "sorted") (hm : X.mg "sorted" = none) (ha : SE K (fV K) X a ma) (hs : starEach [a] X.env = [(false, eval a X.env)] := by rfl) (hpl : (backTo pos (starEach [] X.env)).any (·.1) = false := by rfl) :
    SE K (fF K) X (.Call (.Name "sorted" p) [a] [] pos) (mUn oSorted_tt ma) := by
  subst hK
  exact se_b1 (id := "sorted") callr_sortedTT (fun y H Q h => ⟨y, rfl, h⟩) mo_sortedTT embF hg hm (by decide +kernel) ha hs (by decide) (by decide) hpl
end
end Dl

/-! A def that hands back a list of the caller's own, called by the names of what it takes. -/
set_option Elab.async false
set_option linter.all false
set_option maxRecDepth 100000
set_option maxHeartbeats 4000000
namespace Dl
open PySem PySem.Spec PyProof.Rows L2 Br
section
variable {K : PySem.W.Frag} {X : Cx}
def mCallKF (F : Ff) (is : List Nat) (ma : MA) : ME := fun ρ k => ma ρ fun ds ρ1 => ds.length = is.length ∧ F (perm is ds) fun d => k d ρ1
theorem se_callKF {F : Ff} {k j : Nat} {f : Addr} {fd : FuncData} {ps ks : List Str} {is : List Nat} {x : Str} {p pos : Pos} {kws : List Keyword} {ma : MA} (Fn : FnF X.prog X.w K X.mg X.base j f fd ps F) (hK : X.K = K) (hG : Bare X.A) (hr : Room k X.A) (hj : j ≤ k) (hg : Gl X x) (hm : X.mg x = some (.ref f)) (hk : PySem.W.keepIn K (.ref f) = true)
    (hb : ∀ (s : Shared) (ws : List Value), ws.length = ps.length → BindsTo s fd ⟨[], ks.zip ws⟩ (ps.zip (perm is ws))) (hil : is.length = ps.length) (hkw : SK K X kws ma) (hall : (backToKw pos (keywordEach kws X.env)).all (·.1.isSome) = true := by rfl) (hks : (backToKw pos (keywordEach kws X.env)).filterMap (·.1) = ks := by rfl)
    (hdb : (x == ("__debug__" : Str)) = false := by decide) (hpl : ((backTo pos (starEach [] X.env)).any (·.1) || (backToKw pos (keywordEach kws X.env)).any (·.1.isNone)) = false := by rfl) :
    SE K (fF K) X (.Call (.Name x p) [] kws pos) (mCallKF F is ma) := by
  subst hK
  refine ⟨fun ρ k k' w => hkw.mono ρ _ _ fun ds ρ1 q => ⟨q.1, Fn.mo _ _ _ (fun d => w _ _) q.2⟩, ⟨fun pins s σ H Q I ⟨G, ρ, R, q⟩ => ?_⟩⟩
  refine wpAny_Call_Name_kw (ld_glob I hg hm ?_ hdb)
  refine PySem.W.callWith_KW0 (h₀ := X.base) I.ok.mod.kin hk hall (thn (hkw.pk.run pos pins s σ H (fun zs H1 => ∃ G1 ds ρ1, Rel X.K σ G1 H1 ρ1 ∧ Lk 0 σ G H ρ σ G1 H1 ρ1 ∧ RpAll X.K G1 zs ds ∧ ds.length = is.length ∧ F (perm is ds) fun d => ∀ v G' H', Rel X.K σ G' H' ρ1 → Lk 0 σ G H ρ σ G' H' ρ1 → fF X.K H σ ρ1 G' H' v d → Q v H') I ⟨G, ρ, R, hkw.mono ρ _ _ (fun ds ρ1 q vs G1 H1 R1 l1 rs => ⟨G1, ds, ρ1, R1, l1, rs, q.1, q.2⟩) q⟩) fun ws s1 hh => ?_) hpl
  obtain ⟨zs, H1, I1, r, G1, ds, ρ1, R1, l1, rs, hl, q⟩ := hh
  refine ⟨I1.kIn, ?_⟩
  rw [hks]
  have hwl : ws.length = ps.length := by rw [← r.length, rps_len rs, hl, hil]
  refine run_g Fn.ok hG (hr.mono hj) (E := fun _ _ _ => False) pass0 I1 (hb s1 ws hwl) (vals_perm r is) ?_
  have rp := rps_perm rs is
  refine ⟨by rw [rps_len rp]; exact Fn.ln _ _ q, G1, perm is ds, R1.gh, rp, Fn.mo _ _ _ (fun d q v G2 H2 gh st pv => ?_) q⟩
  exact q v G2 H2 (R1.pure st gh) (l1.trans (.pure st)) (embF σ ρ ρ1 G H G1 H1 G2 H2 v d R1 l1 pv)
end
end Dl

set_option Elab.async false
set_option linter.all false
set_option maxRecDepth 100000
set_option maxHeartbeats 4000000
/-! sorted(d.values()), the values pairs of a text and a number. -/
namespace Dl
open PySem PySem.Spec PyProof.Rows L2 Br
section
variable {prog : Program} {w : World} {A : Around} {E : Value → Shared → Prop} {s : Shared}
/-- sorted(a view of what is there): the values gathered, then sorted -/
theorem sorted_gathered {T : String} {r d : Addr} {n : Nat} {P : Nat → Value → Prop} {OK : Heap → Prop} {shape : Nat → Bool} {vs : List Value} {Q : Value → Shared → Prop} (K : PySem.W.KdlSrc prog w T r d n P OK) (hh : A.handled = none) (hok : OK s.heap) (hn : n ≤ sizeLine)
    (hv : ∀ acc : Array Value, ItemsOf P acc n → acc.toList = vs)
    (ht : ∀ h2 : Heap, (∀ b o, s.heap.get? b = some o → h2.get? b = some o) → ∃ fs, TupsOf h2 shape vs fs)
    (hk : ∀ h2 : Heap, (∀ b o, s.heap.get? b = some o → h2.get? b = some o) → ∀ v ∈ vs, ∃ x, G.tupKeyC h2 shape v = some x)
    (h : ∀ (h1 h2 : Heap) (tk : Nat) (st' : SortSt), (∀ b o, s.heap.get? b = some o → h1.get? b = some o) → h2 = h1.push (seqObj "list" vs.toArray 0) → (arrOf st').Perm (pairsOf vs) → SortedToK (G.tupKindC h2 shape) (arrOf st') (pairsOf vs).size →
      Q (.ref h1.objs.size) { s with heap := sortedHeap h2 h1.objs.size vs ((arrOf st').map (·.2)), toks := tk }) : wpAny (model prog w) A (call (.builtin "sorted") [.ref r]) Q E s := by
  refine Calls.call_function_entry kind_sorted plain_sorted entry_sorted (args_sorted1 _) ?_
  unfold Builtin.«sorted»
  refine wpAny_bind (m := checkCount "sorted" 1 1 _) (wpAny_pure (wpAny_bind (PySem.W.kdu_collect (A := A.in1) K hh hok hn fun h1 tk acc k1 ia => ?_)))
  have ev := hv acc ia
  have lz : vs.length ≤ sizeLine := by rw [← ev, Array.length_toList, ia.1]; exact hn
  rw [ev]
  refine wpAny_bind (wpAny_newList ?_ lz)
  have new : (h1.push (seqObj "list" vs.toArray 0)).get? h1.objs.size = some (seqObj "list" vs.toArray 0) := Heap.get?_push_size _ rfl
  have k2 : ∀ b o, s.heap.get? b = some o → (h1.push (seqObj "list" vs.toArray 0)).get? b = some o := fun b o e => Heap.get?_push_of_some _ (k1 b o e)
  obtain ⟨fs, hf⟩ := ht _ k2
  show wpAny _ _ _ _ _ { s with heap := h1.push (seqObj "list" vs.toArray 0), toks := tk }
  refine wpAny_bind (wpAny_holding (wpAny_call_entry slot_list_sort ⟨_, new, rfl⟩ entry_list_sort (G.list_sort_tups new hf (hk _ k2) lz fun st' a1 a2 a3 => ⟨_, rfl, ?r⟩) (args_list_sort _)))
  case r => exact wpAny_pure ⟨_, rfl, h h1 _ tk st' k1 rfl a1 a2⟩
end
def oSortedVals : O1 := fun a k => match a with
  | .dict ps => (ps.map (·.2)).all isPr = true ∧ ∀ ds' : List D, ds'.Perm (ps.map (·.2)) → ds'.Pairwise (fun x y => ltN (prOf y) (prOf x) = false) → k (.list ds')
  | _ => False
theorem mo_sortedVals : Mo1 oSortedVals := fun a k k' w h => by
  cases a <;> first | exact h.elim | exact ⟨h.1, fun ds' p q => w _ (h.2 ds' p q)⟩
section
variable {K : PySem.W.Frag} {X : Cx} {e : Expr} {ma : ME} {p apos cpos pos : Pos}
theorem pairs_vals {P : Program} {w : World} {es : List DictEntry} {kvs : List (Key × V)} {vs : List (Key × Value)} (kv : KV kvs vs) (h : es.map (·.val) = vs.map (·.2)) : Vals (kvs.map (·.2)) (es.map (·.val)) := by
  rw [h]
  clear h
  unfold KV at kv
  induction kv with
  | nil => exact .nil
  | cons r _ ih => exact .cons r.2 ih
/-- the values of a dict, in the heap -/
theorem vals_raw {G H : Hp} {s : Shared} {pins : List (Addr × Obj)} {σ : L2.St} {x : V} {ps : List (D × D)} (I : Inv X pins σ H s) (g : Same G H) (hx : Vw X.K G H x (.dict ps)) :
    ∃ a xs es ep, x = .ref a ∧ s.heap.DictRaw a es ep ∧ (a == sysModules) = false ∧ es.size ≤ sizeLine ∧ Vals xs (es.toList.map (·.val)) ∧ RpAll X.K G xs (ps.map (·.2)) := by
  obtain ⟨a, rfl, ⟨ks, xs, ds, rd, hl, ra, rfl⟩ | ⟨ks, xs, ds, rd, hl, ra, rfl⟩⟩ := vw_dict g hx
  · have le := rps_len ra
    obtain ⟨l, hs, vs, kv, dof⟩ := dk_rd I.hok rd
    obtain ⟨es, ep, raw, sz, at_⟩ := dof.raw
    have lv : (ks.zip xs).length = vs.length := Paired.length kv
    have e1 : es.toList.map (·.val) = vs.map (·.2) := by
      refine List.ext_getElem? fun j => ?_
      rw [List.getElem?_map, List.getElem?_map]
      by_cases hj : j < es.size
      · have hj2 : j < vs.length := by omega
        have := at_ j hj vs[j].1 vs[j].2 (List.getElem?_eq_getElem hj2)
        rw [List.getElem?_eq_getElem (by rw [Array.length_toList]; exact hj), List.getElem?_eq_getElem hj2]
        show some (es.toList[j].val) = some vs[j].2
        rw [Array.getElem_toList, this.2]
      · rw [List.getElem?_eq_none (by rw [Array.length_toList]; omega), List.getElem?_eq_none (by omega)]; rfl
    refine ⟨a, xs, es, ep, rfl, raw, hs, by omega, ?_, ?_⟩
    · have := pairs_vals (P := X.prog) (w := X.w) kv e1
      rwa [List.map_snd_zip (by omega)] at this
    · rw [List.map_snd_zip (by rw [List.length_map]; omega)]; exact ra
  · have le := rps_len ra
    obtain ⟨l, hs, ys, r, o, es, ep, h1, h2, h3, h4, h5⟩ := (show ObjOk X.prog X.w H s.heap a (.dT (ks.zip xs)) from rd_of I.hok rd)
    have lv : (ks.zip xs).length = ys.length := Paired.length r
    have se : es.size = ys.length := by rw [← Array.length_toList, h4, List.length_map]
    refine ⟨a, xs, es, ep, rfl, ⟨o, h1, h2, h3⟩, hs, by omega, ?_, ?_⟩
    · have e1 : es.toList.map (·.val) = ys.map (·.2.2) := by rw [h4, List.map_map]; rfl
      rw [e1]
      have go : ∀ {l : List (List Key × V)} {m : List (List Key × Addr × Value)}, Paired (fun (p : List Key × V) (q : List Key × Addr × Value) => p.1 = q.1 ∧ H q.2.1 = some (.tup (p.1.map kV)) ∧ RelV p.2 q.2.2) l m → Vals (l.map (·.2)) (m.map (·.2.2)) := by
        intro l m q
        induction q with
        | nil => exact .nil
        | cons r _ ih => exact .cons r.2.2 ih
      have := go r
      rwa [List.map_snd_zip (by omega)] at this
    · rw [List.map_snd_zip (by rw [List.length_map]; omega)]; exact ra
theorem nm_all {G H : Hp} (g : Same G H) : ∀ {vs : List V} {ds : List D}, RpAll K G vs ds → ds.all isPr = true → ∀ u ∈ vs, ∃ n, NameAt K H u n := by
  intro vs
  induction vs with
  | nil => intro ds _ _ u hu; cases hu
  | cons v vs ih =>
    intro ds r h u hu
    cases r with
    | cons r1 r2 =>
      rw [List.all_cons, Bool.and_eq_true] at h
      rcases List.mem_cons.mp hu with z | z
      · subst z; exact ⟨_, pr_name g r1 h.1⟩
      · exact ih r2 h.2 u z
theorem nm_map {G H : Hp} {s : Shared} {pins : List (Addr × Obj)} {σ : L2.St} (I : Inv X pins σ H s) (g : Same G H) : ∀ {vs : List V} {ds : List D}, RpAll X.K G vs ds → ds.all isPr = true → ds.map prOf = vs.map (nameOf X.K H) := by
  intro vs
  induction vs with
  | nil => intro ds r _; cases r; rfl
  | cons v vs ih =>
    intro ds r h
    cases r with
    | cons r1 r2 =>
      rw [List.all_cons, Bool.and_eq_true] at h
      have e := pr_name g r1 h.1
      rw [List.map_cons, List.map_cons, ih r2 h.2, name_inj I e (nameOf_at e)]
theorem se_sorted_values (hK : X.K = K) (hc : X.calm = true) (hg : Gl X "sorted") (hm : X.mg "sorted" = none) (ha : SE K (fV K) X e ma) (hbase : attributeBase e "values" X.env (eval e X.env) = eval e X.env := by rfl) (hline : (apos.endLine == cpos.line) = true := by rfl)
    (hse : starEach [Expr.Call (.Attribute e "values" apos) [] [] cpos] X.env = [(false, eval (Expr.Call (.Attribute e "values" apos) [] [] cpos) X.env)] := by rfl) :
    SE K (fF K) X (.Call (.Name "sorted" p) [.Call (.Attribute e "values" apos) [] [] cpos] [] pos) (mUn oSortedVals ma) := by
  subst hK
  refine ⟨mo_un mo_sortedVals ha.mono, ⟨fun pins s σ H Q I hq => ?_⟩⟩
  obtain ⟨G0, ρ, R, q0⟩ := hq
  refine wpAny_Call_Name_kw (ld_blt I hg hm (u := .builtin "sorted") (by first | rfl | decide +kernel) ?_ (by first | decide +kernel | decide) (by first | decide +kernel | decide))
  rw [hse]
  refine PySem.callWith_builtin1 (wpAny_Call_method0_late hbase hline (thn (ha.pe.run pins s σ H (fun v H1 => ∃ G1 ρ1 d, Rel X.K σ G1 H1 ρ1 ∧ Lk 0 σ G0 H ρ σ G1 H1 ρ1 ∧ Vw X.K G1 H1 v d ∧ oSortedVals d fun d' => ∀ v G' H', Rel X.K σ G' H' ρ1 → Lk 0 σ G0 H ρ σ G' H' ρ1 → fF X.K H σ ρ1 G' H' v d' → Q v H') I ⟨G0, ρ, R, ha.mono ρ _ _ (fun d ρ1 q v G1 H1 R1 l1 r1 => ⟨G1, ρ1, d, R1, l1, r1, q⟩) q0⟩) fun v s1 ⟨x, H1, I1, r1, G1, ρ1, d, R1, l1, vw, q⟩ => ?_))
  cases d <;> first | exact q.elim | skip
  rename_i ps
  obtain ⟨hall, q⟩ := q
  obtain ⟨a, xs, es, ep, rfl, raw, hsys, few, rv, ra⟩ := vals_raw I1 R1.gh vw
  obtain rfl : v = Value.ref a := r1
  have raw' := raw
  obtain ⟨ob, ho, ex, hdat⟩ := raw'
  refine ⟨"dict", "dict.values", F.plainAttrs_dict, F.slot_dict_values, F.type_dict_values, ⟨ob, ho, ex.1⟩, fun b e => ?_, Calls.callWith_builtin rfl (PySem.evalArgs_none ?_)⟩
  · cases e
    exact ⟨ob, ho, ex.2.1⟩
  refine call_meetsIn F.slot_dict_values ⟨ob, ho, ex.1⟩ F.entry_dict_values (F.args_dict_values_1 _) (meets_dict_values_raw a hsys) ⟨⟨es, ep, raw⟩, ?_⟩
  have I2 : Inv X pins σ H1 { s1 with heap := s1.heap.push { cls := .type "dict_values", data := .fields #[.ref a] } } := I1.kept (t' := s1.toks) fun b ob q => Heap.get?_push_of_some _ q
  have vat : (s1.heap.push { cls := .type "dict_values", data := .fields #[.ref a] }).get? s1.heap.objs.size = some { cls := .type "dict_values", data := .fields #[.ref a] } := Heap.get?_push_size _ rfl
  have psz : (s1.heap.push { cls := .type "dict_values", data := .fields #[.ref a] }).objs.size = s1.heap.objs.size + 1 := size_push' ..
  generalize hh0 : s1.heap.push { cls := .type "dict_values", data := .fields #[.ref a] } = h0 at I2 vat psz
  have raw2 : h0.DictRaw a es ep := by rw [← hh0]; exact raw.push _
  have nm := nm_all R1.gh ra hall
  generalize hits : es.toList.map (·.val) = its at rv
  obtain ⟨e1, e2⟩ := refs_back rv fun x m => (nm x m).elim fun n h => h.imp fun t z => z.1
  have look : ∀ v ∈ its, ∃ t o t1 t2 n, v = .ref t ∧ h0.get? t = some o ∧ o.cls = .type "tuple" ∧ o.data = .seq #[.str (nameOf X.K H1 (backV v)).1 t1, .int (nameOf X.K H1 (backV v)).2 t2] n := by
    intro v hv
    obtain ⟨t, rfl⟩ := e2 v hv
    obtain ⟨n0, hn0⟩ := nm (.ref t) (by rw [e1]; exact List.mem_map.mpr ⟨_, hv, rfl⟩)
    obtain ⟨b, eb, hb⟩ := nameOf_at hn0
    cases eb
    obtain ⟨its2, r2, ⟨o, ho, hc, n, hd⟩, _⟩ := I2.tuple hb
    obtain ⟨u1, u2, rfl, ⟨t1, rfl⟩, ⟨t2, rfl⟩⟩ := vals2 r2
    exact ⟨t, o, t1, t2, n, rfl, ho, hc, hd⟩
  let shape : Nat → Bool := fun i => decide (i = 0)
  have key : ∀ h2 : Heap, (∀ b o, h0.get? b = some o → h2.get? b = some o) → ∀ v ∈ its, G.tupKeyC h2 shape v = some (rawKey (nameOf X.K H1 (backV v))) := fun h2 k v hv => by
    obtain ⟨t, o, t1, t2, n, rfl, ho, hc, hd⟩ := look v hv
    have ho := k _ _ ho
    unfold G.tupKeyC
    have it : G.isTupObj h2 (.ref t) = true := by
      unfold G.isTupObj
      simp [ho, hc]
    rw [if_pos it]
    unfold tupKey
    simp only [ho, hd]
    rfl
  refine sorted_gathered (s := { s1 with heap := h0 }) (shape := shape) (vs := its) (KdlSrc.rawValues (r := s1.heap.objs.size) (d := a) (es := es) (ep := ep)) (I1.ok.hd hc) ⟨⟨_, vat, rfl, rfl⟩, raw2⟩ few (fun acc ia => ?_) (fun h2 k => tups_of fun v hv => ?_) (fun h2 k v hv => ⟨_, key h2 k v hv⟩) fun h1 h2 tk st' k1 eh hp hso => ?_
  · rw [← hits]
    refine List.ext_getElem? fun j => ?_
    rw [List.getElem?_map]
    by_cases hj : j < es.size
    · have hj2 : j < acc.size := by rw [ia.1]; exact hj
      obtain ⟨_, e⟩ := ia.2 j acc[j] (Array.getElem?_eq_getElem hj2)
      rw [Array.getElem?_toList, Array.getElem?_toList, Array.getElem?_eq_getElem hj2, Array.getElem?_eq_getElem hj, e]; rfl
    · rw [Array.getElem?_toList, Array.getElem?_toList, Array.getElem?_eq_none (by rw [ia.1]; omega), Array.getElem?_eq_none (by omega)]; rfl
  · obtain ⟨t, o, t1, t2, n, rfl, ho, hc, hd⟩ := look v hv
    exact ⟨_, t, o, _, n, rfl, k _ _ ho, hc, hd, rfl, fun z => (by cases z), fun _ => ⟨_, _, rfl⟩⟩
  have big : h0.objs.size ≤ h1.objs.size := by rw [psz]; exact Heap.lt_size (k1 _ _ vat)
  have k2 : ∀ b o, h1.get? b = some o → h2.get? b = some o := fun b o e => by rw [eh]; exact Heap.get?_push_of_some _ e
  have zz : (pairsOf its).toList = its.zip its := pairsOf_toList its
  have hpl : (arrOf st').toList.Perm (its.zip its) := by rw [← zz]; exact hp.toList
  have own : ∀ p ∈ (arrOf st').toList, p.1 = p.2 ∧ p.1 ∈ its := fun p hm => mem_zip_self (hpl.mem_iff.mp hm)
  have sz : (arrOf st').size = its.length := by
    have := hpl.length_eq
    rw [Array.length_toList, List.length_zip] at this
    omega
  have outp : ((arrOf st').toList.map (·.2)).Perm its := by
    have z := hpl.map (·.2)
    rwa [List.map_snd_zip (Nat.le_refl _)] at z
  have oute : ((arrOf st').map (·.2)).toList = (arrOf st').toList.map (·.2) := Array.toList_map
  have pw : ((arrOf st').toList.map (·.2)).Pairwise (fun x y => ltN (nameOf X.K H1 (backV y)) (nameOf X.K H1 (backV x)) = false) := by
    rw [List.pairwise_iff_getElem]
    intro i j hi hj hij
    have hi' : i < (arrOf st').size := by rwa [List.length_map, Array.length_toList] at hi
    have hj' : j < (arrOf st').size := by rwa [List.length_map, Array.length_toList] at hj
    have kk : ∀ n (hn : n < (arrOf st').size), KK (G.tupKindC h2 shape) (arrOf st') n = rawKey (nameOf X.K H1 (backV ((arrOf st')[n]).2)) := fun n hn => by
      have m : (arrOf st')[n] ∈ (arrOf st').toList := by
        rw [← Array.getElem_toList]
        exact List.getElem_mem _
      obtain ⟨o1, o2⟩ := own _ m
      unfold KK
      rw [Array.getElem?_eq_getElem hn]
      show (G.tupKeyC h2 shape ((arrOf st')[n]).1).getD [] = _
      rw [key h2 (fun b o e => k2 _ _ (k1 _ _ e)) _ o2, ← o1]
      rfl
    have z := hso i j (Nat.le_of_lt hij) (by
      have : (pairsOf its).size = its.length := by rw [← Array.length_toList, zz, List.length_zip]; omega
      omega)
    rw [kk i hi', kk j hj'] at z
    have z' : (listOrd itemOrd).blt (rawKey (nameOf X.K H1 (backV ((arrOf st')[j]).2))) (rawKey (nameOf X.K H1 (backV ((arrOf st')[i]).2))) = false := z
    rw [raw_lt] at z'
    simp only [List.getElem_map, Array.getElem_toList]
    exact z'
  have atL : h2.get? h1.objs.size = some (seqObj "list" its.toArray 0) := by rw [eh]; exact Heap.get?_push_size _ rfl
  obtain ⟨ee, hn⟩ := sortedHeap_at (vs := its) (out := (arrOf st').map (·.2)) atL
  have kh : ∀ b o, h0.get? b = some o → (sortedHeap h2 h1.objs.size its ((arrOf st').map (·.2))).get? b = some o := fun b o z =>
    (sortedHeap_old (Nat.ne_of_lt (Heap.lt_size (k1 _ _ z))) (Heap.lt_size (k2 _ _ (k1 _ _ z)))).trans (k2 _ _ (k1 _ _ z))
  have h3 : ∀ u ∈ (arrOf st').toList.map (·.2), ∃ a, u = Value.ref a := fun u hu => e2 u (outp.mem_iff.mp hu)
  have lenO : ((arrOf st').toList.map (·.2)).length = its.length := outp.length_eq
  have leni : its.length ≤ sizeLine := by rw [← hits, List.length_map, Array.length_toList]; exact few
  have fP : H1 h1.objs.size = none := I2.hok.fresh big
  refine ⟨.ref h1.objs.size, upd H1 h1.objs.size (.lst (((arrOf st').toList.map (·.2)).map backV)), I2.laid (t' := tk) kh big ⟨by rw [List.length_map, lenO]; exact leni, (arrOf st').toList.map (·.2), ee, vals_back h3, by rw [hn, ← oute, Array.toArray_toList]⟩, rfl, ?_⟩
  have pmV : (((arrOf st').toList.map (·.2)).map backV).Perm xs := by rw [e1]; exact outp.map backV
  obtain ⟨ds', pd, rs'⟩ := perm_rps pmV ra
  have hall' : ds'.all isPr = true := List.all_eq_true.mpr fun d hd => List.all_eq_true.mp hall d (pd.mem_iff.mp hd)
  have em := nm_map I1 R1.gh rs' hall'
  have pw1 : ((((arrOf st').toList.map (·.2)).map backV).map (nameOf X.K H1)).Pairwise (fun x y => ltN y x = false) := by
    rw [List.map_map]
    exact List.pairwise_map.mpr pw
  rw [← em] at pw1
  have ne : ∀ b o, H1 b = some o → b ≠ h1.objs.size := fun b o z y => by rw [y, fP] at z; cases z
  have gh : Same G1 (upd H1 h1.objs.size (.lst (((arrOf st').toList.map (·.2)).map backV))) := fun b o z => by
    rw [upd_ne (ne b o (R1.gh b o z))]
    exact R1.gh b o z
  have st : Stp Pure G1 H1 G1 (upd H1 h1.objs.size (.lst (((arrOf st').toList.map (·.2)).map backV))) := ⟨fun b o z => z, fun b o _ z => by rw [upd_ne (ne b o z)]; exact z, fun b o _ z g _ => g, fun b z => by
    cases y : H1 b with
    | none => rfl
    | some o => rw [upd_ne (ne b o y), y] at z; cases z⟩
  exact q ds' pd (List.pairwise_map.mp pw1) _ G1 _ (R1.pure st gh) (l1.trans (.pure st)) ⟨_, _, rfl, l1.st.dom _ fP, fun z => R1.old z fP, upd_same, R1.gh.free fP, .lst rs'⟩
end
end Dl

set_option Elab.async false
set_option linter.all false
set_option maxRecDepth 100000
set_option maxHeartbeats 4000000
/-! [.. for key in d if ..], d a dict that is only read. -/
namespace Dl
open PySem PySem.Spec PyProof.Rows L2 Br
section
variable {K : PySem.W.Frag} {X : Cx}
theorem keys_ti {i : Nat} {σ : L2.St} {H : Hp} {R : It → Hp → Prop} {a : Addr} {o : Obj} {u : HO} (hv : σ[i]? = some (some (.ref a))) (hH : H a = some (.frz o u)) (hd : isDic u = true) (h : tI K (mKeys i) σ H R) : iKeys (tVar i) σ H R := by
  obtain ⟨G, ρ, R0, q⟩ := h
  unfold mKeys at q
  split at q
  · rename_i ps ei
    obtain ⟨v, hv', r⟩ := R0.fro i _ ei
    rw [hv] at hv'
    cases hv'
    have same : ∀ w : HO, isDic w = true → Rd G a w → w = u ∧ G a = some (.frz o u) := fun w hw s => by
      rcases s with s | ⟨o', s⟩
      · have := R0.gh a _ s
        rw [hH] at this
        cases this
        cases hw
      · have := R0.gh a _ s
        rw [hH] at this
        cases this
        exact ⟨rfl, s⟩
    refine ⟨_, hv, a, o, rfl, ?_⟩
    cases r with
    | @dK _ ks xs ds s l ra =>
      obtain ⟨rfl, ga⟩ := same _ rfl s
      have ln := rps_len ra
      refine .inl ⟨_, hH, q _ G H R0 .refl ?_⟩
      rw [List.map_fst_zip (by simp; omega)]
      exact wk_keys l ga
    | @dT _ ks xs ds s l ra =>
      obtain ⟨rfl, ga⟩ := same _ rfl s
      have ln := rps_len ra
      refine .inr ⟨_, hH, q _ G H R0 .refl ?_⟩
      rw [List.map_fst_zip (by simp; omega)]
      exact wk_keysT l ga
  · exact q.elim
theorem mo_keysI {i : Nat} : Mo (mKeys i) := fun ρ k k' w => by
  unfold mKeys
  split
  · exact w _ _
  · exact id
theorem se_lcK {elt tg iter : Expr} {ifs : List Expr} {scope : Scope} {own : List (Str × Nat)} {pos : Pos} {i : Nat} {g : TG} {mg : MG} {mt : MT} {me : ME} {ts : List Nat} (hc : X.calm = true) (hN : X.N.Nodup) (hi : PE X iter (tVar i)) (ok : BlkOk X.N X.env.scope scope own)
    (hg : ∀ (s : Shared) (H : Hp) (C : Addr) (cl : List (Str × Addr)) (fp : List Addr), PG (X.blk s H scope (compEnvC scope cl C X.env) fp) tg g) (sg : SG K 0 ts g mg) (hts : ∀ t ∈ ts, t ∈ own.map (·.2))
    (ht : ∀ (s : Shared) (H : Hp) (C : Addr) (cl : List (Str × Addr)) (fp : List Addr), STs K (X.blk s H scope (compEnvC scope cl C X.env) fp) ifs mt)
    (he : ∀ (s : Shared) (H : Hp) (C : Addr) (cl : List (Str × Addr)) (fp : List Addr), SE K (fE K) (X.blk s H scope (compEnvC scope cl C X.env) fp) elt me) (hs : ∀ x, foldedSetIterable iter X.env x = pure x := by intro _; rfl) :
    SE K (fF K) X (.ListComp elt [⟨tg, iter, ifs, 0⟩] scope pos) (mLk i (mLc (mKeys i) mg mt me (own.map (·.2)))) := by
  have mt' := (ht X.s_0 X.H_0 0 [] []).mono
  have me' := (he X.s_0 X.H_0 0 [] []).mono
  have mo : Mo (mLc (mKeys i) mg mt me (own.map (·.2))) := fun ρ k k' w => mo_keysI ρ _ _ fun xs ρ1 q => ⟨q.1, mo_lcL sg.mono mt' me' (fun ds ρ2 => w _ ρ2) xs [] _ q.2⟩
  refine se_locked mo (pe_weak (pe_lc hc hN (pi_keys hi) ok hg (fun s H C cl fp => (ht s H C cl fp).pts) (fun s H C cl fp => (he s H C cl fp).pe) hs) fun σ H Q h => ?_)
  obtain ⟨G, ρ, R, ⟨a, o, u, hv, ga, hd, hz⟩, q⟩ := h
  exact keys_ti hv (R.gh _ _ ga) hd (t_lc mo_keysI sg hts mt' me' σ H Q ⟨G, ρ, R, q⟩)
end
/-- sorted(t), t a tuple of pairs: and in which order -/
def oSorted_tupsP : O1 := fun a k => match a with
  | .tuple _ ds => ds.all isPr = true ∧ ∀ ds' : List D, ds'.Perm ds → ds'.Pairwise (fun x y => ltN (prOf y) (prOf x) = false) → k (.list ds')
  | _ => False
theorem mo_sortedTP : Mo1 oSorted_tupsP := fun a k k' w h => by cases a <;> first | exact h.elim | exact ⟨h.1, fun ds' p q => w _ (h.2 ds' p q)⟩
section
variable {K : PySem.W.Frag} {X : Cx} {a : Expr} {ma : ME} {pos : Pos}
theorem callr_sortedTPw : CallR X (.builtin "sorted") (fun xs H Q => ∃ x, xs = [x] ∧ rO1 X.K (pF X.K) oSorted_tupsP x H Q) := by
  intro pins s σ H xs us Q I r h
  obtain ⟨x, rfl, G, d, g, hx, q⟩ := h
  cases d <;> first | exact q.elim | skip
  rename_i c ds
  have rx := vw_rp g hx
  cases hx with
  | own h ob => cases ob
  | fro rr =>
  obtain ⟨p, vs, rfl, sq, ra, _⟩ := rp_tup rr
  obtain ⟨hall, q⟩ := q
  have nm := nm_all g ra hall
  refine cr_sortedTN pins s σ H _ us Q I r ⟨p, vs, nameOf X.K H, rfl, sqT_same g sq, fun u hu => ?_, fun us' n pm pw nn => ?_⟩
  · obtain ⟨m, hm⟩ := nm u hu
    exact nameOf_at hm
  · obtain ⟨ds', pd, rs'⟩ := perm_rps pm ra
    have hall' : ds'.all isPr = true := List.all_eq_true.mpr fun d hd => List.all_eq_true.mp hall d (pd.mem_iff.mp hd)
    have em := nm_map I g rs' hall'
    have pw1 : (us'.map (nameOf X.K H)).Pairwise (fun x y => ltN y x = false) := List.pairwise_map.mpr pw
    rw [← em] at pw1
    exact newF g (q ds' pd (List.pairwise_map.mp pw1)) nn (.lst rs')
theorem se_sorted_tupsP {k : Nat} {p : Pos} (hK : X.K = K) (hr : Room k X.A) (hg : Gl X "sorted") (hm : X.mg "sorted" = none) (ha : SE K (fV K) X a ma) (hs : starEach [a] X.env = [(false, eval a X.env)] := by rfl) (hpl : (backTo pos (starEach [] X.env)).any (·.1) = false := by rfl) :
    SE K (fF K) X (.Call (.Name "sorted" p) [a] [] pos) (mUn oSorted_tupsP ma) := by
  subst hK
  exact se_b1 (id := "sorted") callr_sortedTPw (fun y H Q h => ⟨y, rfl, h⟩) mo_sortedTP embF hg hm (by decide +kernel) ha hs (by decide) (by decide) hpl
end
end Dl

set_option Elab.async false
set_option linter.all false
set_option maxRecDepth 100000
set_option maxHeartbeats 4000000
/-! Sets of texts. -/
namespace Sn
open PySem PySem.Spec PyProof.Rows L2 Br
/-- the text of an entry -/
def ktx (e : Int × Value) : Str := match e.2 with
  | .str x _ => x
  | _ => Str.empty
def Ktx (w : World) (e : Int × Value) : Prop := ∃ x t, e.2 = Value.str x t ∧ e.1 = hashStr w x
/-- the set of texts that lies at a, with its texts in the order of the table -/
def T0 (w : World) (h : Heap) (a : Addr) (L : List Str) : Prop := ∃ (es : Array (Int × Value)) (ep : Nat) (t : SetTable), (∃ o, h.get? a = some o ∧ o.ExactSet ∧ o.data = .set es ep t) ∧ L = es.toList.map ktx ∧ (∀ e ∈ es.toList, Ktx w e) ∧ L.Nodup ∧
  t.fits es.size = true ∧ Ris t.place.toList ∧ (w.params.followText "set-order" = true ∨ t.led = true)
section
variable {P : Program} {w : World} {A : Around} {E : Value → Shared → Prop} {s : Shared} {a : Addr} {L : List Str}
theorem sof (x : Str) (t : Tok) : Value.isStrOf x (.str x t) = true := beq_self_eq_true x
theorem ktx_is {e : Int × Value} (g : Ktx w e) (k : Str) : (strKind P w).is k e.2 = true ↔ ktx e = k := by
  obtain ⟨x, t, e1, _⟩ := g
  unfold ktx
  rw [e1]
  show (x == k) = true ↔ x = k
  exact beq_iff_eq
theorem ktx_elems {l : List (Int × Value)} (g : ∀ e ∈ l, Ktx w e) : ElemsOf (strKind P w) l := by
  intro e m
  obtain ⟨x, t, e1, e2⟩ := g e m
  rw [e1, e2]
  exact ⟨⟨x, sof x t, rfl⟩, rfl⟩
theorem T0.at {h' : Heap} {h : Heap} (Z : T0 w h a L) (k : ∀ o, h.get? a = some o → h'.get? a = some o) : T0 w h' a L :=
  let ⟨es, ep, t, ⟨o, oa, r⟩, q⟩ := Z; ⟨es, ep, t, ⟨o, k o oa, r⟩, q⟩
theorem t0_new {h : Heap} {a : Addr} (w : World) (ha : h.get? a = some { cls := .type "set", dict := none, data := .set #[] 0 (.fresh 0 0 (!w.params.followText "set-order")) }) : T0 w h a [] := by
  refine ⟨#[], 0, _, ⟨_, ha, ⟨rfl, rfl, rfl⟩, rfl⟩, rfl, (fun e m => nomatch m), List.nodup_nil, rfl, List.Pairwise.nil, ?_⟩
  by_cases b : w.params.followText "set-order" = true
  · exact .inl b
  · exact .inr (by show (!w.params.followText "set-order") = true; rw [Bool.eq_false_iff.mpr b]; rfl)
/-- what is laid is stored, and laid anew where it is too full -/
theorem tx_lay {f : Bool → Sem Unit} (hf : ∀ (b : Bool) (s1 : Shared) (R : Unit → Shared → Prop), R () s1 → wpAny (model P w) A (f b) R E s1) {o : Obj} {es es1 : Array (Int × Value)} {ep : Nat} {t t1 : SetTable} (oa : s.heap.get? a = some o) (ox : o.ExactSet) (od : o.data = .set es ep t)
    (g : ∀ e ∈ es1.toList, Ktx w e) (nd : (es1.toList.map ktx).Nodup) (few : es1.size < scanBound) (ft : t1.fits es1.size = true) (ri : Ris t1.place.toList) (ld : w.params.followText "set-order" = true ∨ t1.led = true) {dm : Bool} {R : Option Bool → Shared → Prop}
    (q : ∀ h' L', Heap.SameBut a s.heap h' → T0 w h' a L' → L'.Perm (es1.toList.map ktx) → R (some true) { s with heap := h' }) :
    wpAny (model P w) A (do
        storeSet a es1 t1
        if (!dm && t1.tooFull) = true then do
            f (relayAll t1 es1 (SetTable.grown es1.size)).2.2
            storeSet a (relayAll t1 es1 (SetTable.grown es1.size)).1 (relayAll t1 es1 (SetTable.grown es1.size)).2.1
            pure (some true)
          else pure (some true)) R E s := by
  have sz := fits_of_scanBound few
  refine wpAny_bind (wpAny_storeSet_of oa od ?_ sz)
  have at1 := store_at (es' := es1) (t' := t1) oa od
  have b1 : Heap.SameBut a s.heap (s.heap.update a (Obj.putSet es1 t1)) := .update ..
  by_cases c : (!dm && t1.tooFull) = true
  · rw [if_pos c]
    have p2 := relayAll_perm t1 es1 (SetTable.grown es1.size)
    have f2 := relayAll_fits t1 es1 (SetTable.grown es1.size)
    have r2 := relayAll_ris t1 es1 (SetTable.grown es1.size)
    have l2 := relayAll_led t1 es1 (SetTable.grown es1.size)
    generalize relayAll t1 es1 (SetTable.grown es1.size) = z at p2 f2 r2 l2 ⊢
    obtain ⟨es2, t2, gv⟩ := z
    have sz2 : es2.size ≤ sizeLine := by
      have := p2.length_eq
      simp only [Array.length_toList] at this
      omega
    refine wpAny_bind (hf gv _ _ (wpAny_bind (wpAny_storeSet_of at1 rfl (wpAny_pure ?_) sz2)))
    have at2 := store_at (es' := es2) (t' := t2) at1 rfl
    exact q _ _ (b1.trans (.update ..)) ⟨es2, _, t2, ⟨_, at2, ox, rfl⟩, rfl, (fun e m => g e (p2.mem_iff.mp m)), (p2.map ktx).nodup_iff.mpr nd, f2, r2, ld.imp id fun y => l2.trans y⟩ (p2.map ktx)
  · rw [if_neg c]
    exact wpAny_pure (q _ _ b1 ⟨es1, _, t1, ⟨_, at1, ox, rfl⟩, rfl, g, nd, ft, ri, ld⟩ (.refl _))
/-- how a set of texts that had L has L' with x added -/
def GrewT (L L' : List Str) (x : Str) : Prop := (x ∈ L ∧ L' = L) ∨ (x ∉ L ∧ L'.Perm (x :: L))
theorem tx_add {x : Str} {u : Tok} (Z : T0 w s.heap a L) (few : L.length + 1 < scanBound) {Q : Bool → Shared → Prop} (q : ∀ b h' L', Heap.SameBut a s.heap h' → T0 w h' a L' → GrewT L L' x → Q b { s with heap := h' }) :
    wpAny (model P w) A (setAddHashed a (.str x u) (hashStr w x)) Q E s := by
  obtain ⟨es, ep, t, ⟨o, oa, ox, od⟩, rfl, g, nd, ft, ri, ld⟩ := Z
  rw [List.length_map, Array.length_toList] at few
  have el : ElemsOf (strKind P w) es.toList := ktx_elems g
  have own : (strKind P w).is x (.str x u) = true := sof x u
  have sc : (Value.str x u).scannable = true := rfl
  show wpAny (model P w) A (setAddHashed a (.str x u) ((strKind P w).hash x)) Q E s
  unfold setAddHashed setAddHashedIn
  refine wpAny_holding (wpAny_bind (wpAny_setState_of oa od ft ?_))
  have few0 : es.size < scanBound := by omega
  simp only [byScan_of sc few0 el, if_true]
  unfold setAddByScan
  refine wpAny_bind (wpAny_bind (wpAny_rule (wpAny_bind (wpAny_setScan_of own oa od ft el ?_))))
  cases hi : es.toList.findIdx? (fun e => (strKind P w).is x e.2) with
  | some j =>
    obtain ⟨hj, pj, _⟩ := List.findIdx?_eq_some_iff_getElem.mp hi
    have m := List.getElem_mem hj
    have e1 := (ktx_is (P := P) (g _ m) x).mp pj
    exact wpAny_pure (wpAny_pure (q false s.heap _ (.refl a s.heap) ⟨es, ep, t, ⟨o, oa, ox, od⟩, rfl, g, nd, ft, ri, ld⟩ (.inl ⟨List.mem_map.mpr ⟨_, m, e1⟩, rfl⟩)))
  | none =>
    have nm : x ∉ es.toList.map ktx := fun m => by
      obtain ⟨e, he, e1⟩ := List.mem_map.mp m
      have := List.findIdx?_eq_none_iff.mp hi e he
      rw [(ktx_is (P := P) (g e he) x).mpr e1] at this
      cases this
    have gv : ∀ (b : Bool) (s1 : Shared) (R : Unit → Shared → Prop), R () s1 → wpAny (model P w) A (match b with | true => rule "set.scan.the-table-gave-way" | false => pure ()) R E s1 := fun b s1 R y => by
      cases b
      · exact wpAny_pure y
      · exact wpAny_rule y
    have p1 := layNew_perm t es ((strKind P w).hash x) (.str x u)
    have f1 := layNew_fits t es ((strKind P w).hash x) (.str x u)
    have r1 := layNew_ris t es ((strKind P w).hash x) (.str x u) ri
    have l1 := layNew_led t es ((strKind P w).hash x) (.str x u)
    generalize layNew t es ((strKind P w).hash x) (.str x u) = z at p1 f1 r1 l1 ⊢
    obtain ⟨es1, t1, dm, gave⟩ := z
    dsimp only at p1 f1 r1 l1 ⊢
    rw [Array.toList_push] at p1
    have p2 := p1.trans (List.perm_append_singleton _ _)
    have pk : (es1.toList.map ktx).Perm (x :: es.toList.map ktx) := p2.map ktx
    have g1 : ∀ e ∈ es1.toList, Ktx w e := fun e m => (List.mem_cons.mp (p2.mem_iff.mp m)).elim (fun y => ⟨x, u, by rw [y], by rw [y]; rfl⟩) (g e)
    have n1 : (es1.toList.map ktx).Nodup := pk.nodup_iff.mpr (List.nodup_cons.mpr ⟨nm, nd⟩)
    have few1 : es1.size < scanBound := by
      have := p2.length_eq
      rw [List.length_cons, Array.length_toList, Array.length_toList] at this
      omega
    have ld1 : w.params.followText "set-order" = true ∨ t1.led = true := ld.imp id fun y => l1.trans y
    refine wpAny_bind (gv _ _ _ ?_)
    have last : ∀ h' L', Heap.SameBut a s.heap h' → T0 w h' a L' → L'.Perm (es1.toList.map ktx) → wpAny (model P w) A (pure true) Q E { s with heap := h' } := fun h' L' sb Z' pm => wpAny_pure (q true h' L' sb Z' (.inr ⟨nm, pm.trans pk⟩))
    cases hp : t1.plain with
    | true =>
      simp only [if_true]
      rw [hashByValue_scannable 8 sc]
      refine wpAny_bind (wpAny_pure ?_)
      exact tx_lay (t1 := if plainKind (.str x u) = true then t1 else { t1 with plain := false }) gv oa ox od g1 n1 few1 (by split <;> first | exact f1 | exact SetTable.fits_plain_off f1) (by split <;> exact r1) (by split <;> exact ld1) fun h' L' sb Z' pm => last h' L' sb Z' pm
    | false =>
      simp only [Bool.false_eq_true, if_false]
      refine wpAny_bind (wpAny_pure ?_)
      exact tx_lay gv oa ox od g1 n1 few1 f1 r1 ld1 fun h' L' sb Z' pm => last h' L' sb Z' pm
theorem tx_setAdd {x : Str} {u : Tok} (Z : T0 w s.heap a L) (few : L.length + 1 < scanBound) {Q : Bool → Shared → Prop} (q : ∀ b h' L' tk, s.toks ≤ tk → Heap.SameBut a s.heap h' → T0 w h' a L' → GrewT L L' x → Q b { s with heap := h', toks := tk }) :
    wpAny (model P w) A (setAdd a (.str x u)) Q E s := by
  unfold setAdd
  exact wpAny_holding (wpAny_bind ((strKind P w).pyHash (sof x u) (tx_add (s := { s with toks := s.toks + 1 }) Z few fun b h' L' sb Z' c => q b h' L' _ (Nat.le_succ _) sb Z' c)))
theorem n_setAdd {L : List (Addr × List Key)} {x : Addr} {k : List Key} {es : Array (Int × Value)} {ep : Nat} {t : SetTable} (S : Tr P w s.heap a L es ep t) (hx : Tu P w s.heap k x) (hu : A.units < cLine) (few : L.length + 1 < 18) {Q : Bool → Shared → Prop}
    (q : ∀ b h' L' tk, s.toks ≤ tk → Heap.SameBut a s.heap h' → N0 P w h' a L' → Grew L L' x k → Q b { s with heap := h', toks := tk }) : wpAny (model P w) A (setAdd a (.ref x)) Q E s := by
  unfold setAdd
  refine wpAny_holding (wpAny_bind (wpAny_pyHash_tuple hu hx ?_))
  have S2 : Tr P w ({ s with toks := s.toks + (k.length + 1) } : Shared).heap a L es ep t := S
  exact tr_add (s := { s with toks := s.toks + (k.length + 1) }) S2 hx hu few fun b h' L' es' ep' t' sb S3 c => q b h' L' _ (Nat.le_add_right _ _) sb S3.n0 c
/-! ### set(xs) -/
/-- the loop: Z i says what the set is when i were put in -/
theorem upd_loop {R : Result → Shared → Prop} {I : Addr} {fp wr : List Addr} {G : Array GenState → Array GenState → Prop} {n : Nat} {Pv : Nat → Value → Prop} {St : Nat → Shared → Prop} {h0 : Heap} {Z : Nat → Heap → Prop} {a : Addr}
    (W : WalksS P w A.in1 I fp wr G n Pv St) (nf : a ∉ fp) (nz : ∀ b o, h0.get? b = some o → b ∉ wr ∧ b ≠ a)
    (zk : ∀ i h h', Z i h → (∀ o, h.get? a = some o → h'.get? a = some o) → Z i h')
    (zs : ∀ (i : Nat) (v : Value) (s : Shared) (Q : Bool → Shared → Prop) (E : Value → Shared → Prop), i < n → Pv i v → (∀ b o, h0.get? b = some o → s.heap.get? b = some o) → Z i s.heap →
      (∀ r h' tk, s.toks ≤ tk → Heap.SameBut a s.heap h' → Z (i + 1) h' → Q r { s with heap := h', toks := tk }) → wpAny (model P w) A.in1 (setAdd a v) Q E s) :
    ∀ (m i : Nat) (s : Shared), n - i = m → i ≤ n → St i s → (∀ b o, h0.get? b = some o → s.heap.get? b = some o) → Z i s.heap →
      (∀ s', Moved (a :: wr) G s s' → (∀ b o, h0.get? b = some o → s'.heap.get? b = some o) → Z n s'.heap → R (.ok (.ret .none)) s') →
      codeAny (model P w) A (.builtin "set.update.loop" ⟨[.ref a, .ref I], []⟩) R s := by
  have nw : a ∉ wr := fun m => nf (W.sub _ m)
  have up : ∀ b, b ∈ wr → b ∈ a :: wr := fun b m => List.mem_cons_of_mem _ m
  intro m
  induction m with
  | zero =>
    intro i s em le st k0 z hR
    obtain rfl : i = n := by omega
    refine codeAny_builtin F.entry_set_update_loop ?_
    rw [Around.under_plainId F.plain_set_update_loop _]
    refine wpAny_bind (m := pyNext (.ref I)) (W.done s _ _ st fun s1 mv => ?_)
    exact wpAny_pure (hR s1 (mv.mono up) (fun b o e => mv.heap b o (nz b o e).1 (k0 b o e)) (zk _ _ _ z fun o e => mv.heap a o nw e))
  | succ m ih =>
    intro i s em le st k0 z hR
    have lt : i < n := by omega
    refine codeAny_builtin F.entry_set_update_loop ?_
    rw [Around.under_plainId F.plain_set_update_loop _]
    refine wpAny_bind (m := pyNext (.ref I)) (W.item i s _ _ lt st fun v s1 pv st1 mv => ?_)
    have k1 : ∀ b o, h0.get? b = some o → s1.heap.get? b = some o := fun b o e => mv.heap b o (nz b o e).1 (k0 b o e)
    refine wpAny_bind (m := holding [v] (setAdd a v)) (wpAny_holding (zs i v s1 _ _ lt pv k1 (zk _ _ _ z fun o e => mv.heap a o nw e) fun r h2 tk le2 sb z2 => ?_))
    have keep : ∀ b o, b ≠ a → s1.heap.get? b = some o → h2.get? b = some o := fun b o nb e => (sb.2 b nb).trans e
    refine wpAny_pure ⟨plainId_quiet F.plain_set_update_loop _, ih (i + 1) _ (by omega) lt (W.frame _ s1 _ _ st1 le2 fun b hb o e => ?_) (fun b o e => keep b o (nz b o e).2 (k1 b o e)) z2 fun s3 mv3 k3 z3 => ?_⟩
    · exact keep b o (fun q => nf (q ▸ hb)) e
    · exact hR s3 (.trans W.gtrans ((mv.mono up).then_heap le2 fun b o nb e => keep b o (fun q => nb (q ▸ List.mem_cons_self)) e) mv3) k3 z3

abbrev newS (w : World) : Obj := { cls := .type "set", dict := none, data := .set #[] 0 (.fresh 0 0 (!w.params.followText "set-order")) }
set_option maxHeartbeats 8000000 in
/-- set(xs): xs at l, walked by an iterator that is laid as io -/
theorem set_call {T : String} {l : Addr} {oL io : Obj} {n : Nat} {Pv : Nat → Value → Prop} {Z : Nat → Heap → Prop} {Q : Value → Shared → Prop} (hh : A.handled = none) (hfr : io.isFreed = false) (hl : s.heap.get? l = some oL) (hc : oL.cls = .type T)
    (b1 : isSubtype (.type T) (.type "set") = pure false) (b2 : isSubtype (.type T) (.type "frozenset") = pure false) (b3 : (Value.type T == Value.type "dict") = false)
    (hw : ∀ (A' : Around) (I : Addr), A'.handled = none → l ≠ I → ∃ St : Nat → Heap → Prop, Walks P w A' I [I, l] [I] n Pv St ∧ ∀ h : Heap, h.get? I = some io → h.get? l = some oL → St 0 h)
    (hi : ∀ (A' : Around) (s1 : Shared) (Q1 : Value → Shared → Prop) (E1 : Value → Shared → Prop), s1.heap.get? l = some oL → Q1 (.ref s1.heap.objs.size) { s1 with heap := s1.heap.push io } → wpAny (model P w) A' (pyIter (.ref l)) Q1 E1 s1)
    (z0 : ∀ h : Heap, h.get? s.heap.objs.size = some (newS w) → Z 0 h) (zk : ∀ i h h', Z i h → (∀ o, h.get? s.heap.objs.size = some o → h'.get? s.heap.objs.size = some o) → Z i h')
    (zs : ∀ (A' : Around) (i : Nat) (v : Value) (s1 : Shared) (Q1 : Bool → Shared → Prop) (E1 : Value → Shared → Prop), A'.units ≤ A.units + 8 → i < n → Pv i v → (∀ b o, s.heap.get? b = some o → s1.heap.get? b = some o) → Z i s1.heap →
      (∀ r h' tk, s1.toks ≤ tk → Heap.SameBut s.heap.objs.size s1.heap h' → Z (i + 1) h' → Q1 r { s1 with heap := h', toks := tk }) → wpAny (model P w) A' (setAdd s.heap.objs.size v) Q1 E1 s1)
    (q : ∀ (h' : Heap) (tk : Nat), Z n h' → (∀ b o, s.heap.get? b = some o → h'.get? b = some o) → Q (.ref s.heap.objs.size) { s with heap := h', toks := tk }) :
    wpAny (model P w) A (call (.type "set") [.ref l]) Q E s := by
  obtain ⟨c, tl, mr⟩ := F.called_set.mro
  have m1 := F.called_set.made
  have m2 := F.called_set.sub
  have m3 := F.called_set.notType
  have m4 := F.called_set.canCreate
  have m5 := F.typeCall_set_1 (.ref l)
  refine wpAny_call (codeAny_of_tree ?_)
  show wpAny _ _ (callAny (.type "set") _) _ _ _
  refine wpAny_pure ⟨Code.quiet_builtin _ (by decide +kernel), codeAny_builtin F.entry_type_call ?_⟩
  rw [Around.under_plain (weight_type_call_type "set" [.ref l] []) rfl]
  repeat (any_goals (first | assumption | wp_step))
  refine codeAny_mono (code_set_led1 (.ref l) (E := E) (Q₁ := fun x s1 => x = .ref s.heap.objs.size ∧ s1 = { s with heap := s.heap.push (newS w) }) ⟨rfl, rfl⟩) fun r s1 hr => ?_
  rcases r with e | (_ | _ | _ | x) <;> first | exact hr | exact hr.elim | skip
  obtain ⟨rfl, rfl⟩ := hr
  have at1 : (s.heap.push (newS w)).get? s.heap.objs.size = some (newS w) := Heap.get?_push_size _ rfl
  have ty1 : Shared.TypeIs { s with heap := s.heap.push (newS w) } (.ref s.heap.objs.size) "set" := ⟨_, at1, rfl⟩
  have i1 := F.called_set.init.lookup
  have i2 := F.called_set.init.bind (.ref s.heap.objs.size)
  repeat (any_goals (first | assumption | wp_step))
  refine codeAny_mono (codeAny_call_builtin (R := wants (fun x s2 => x = .none ∧ ∃ h' tk, s2 = { s with heap := h', toks := tk } ∧ Z n h' ∧ ∀ b o, s.heap.get? b = some o → h'.get? b = some o) E) F.called_set.init.plain F.entry_set_init (check_set_init_1 ty1 ?_)) fun r s2 hr => ?_
  · have hl1 : (s.heap.push (newS w)).get? l = some oL := Heap.get?_push_of_some _ hl
    have sz1 : (s.heap.push (newS w)).objs.size = s.heap.objs.size + 1 := Heap.size_push ..
    have llt : l < s.heap.objs.size := Heap.lt_size hl
    have lty : Shared.TypeIs { s with heap := s.heap.push (newS w) } (.ref l) T := ⟨oL, hl1, hc⟩
    unfold Builtin.«set.__init__» noKeywords Builtin.Frozenset.updateFrom
    generalize hPI : pyIter = PI
    wp_walk
    subst hPI
    refine hi _ _ _ _ hl1 (wpAny_bind (wpAny_runValue ?_))
    have h3 : A.in1.in1.in1.handled = none := by simp [hh]
    have lne : l ≠ (s.heap.push (newS w)).objs.size := by rw [sz1]; exact Nat.ne_of_lt (Nat.lt_succ_of_lt llt)
    obtain ⟨St, W, st⟩ := hw A.in1.in1.in1 _ h3 lne
    have k0 : ∀ b o, s.heap.get? b = some o → ((s.heap.push (newS w)).push io).get? b = some o := fun b o e => Heap.get?_push_of_some _ (Heap.get?_push_of_some _ e)
    refine upd_loop (h0 := s.heap) (Z := Z) W.toS (fun m => ?_) (fun b o e => ?_) zk (fun i v s1 Q1 E1 lt pv k z y => zs _ i v s1 Q1 E1 ?_ lt pv k z y) (n - 0) 0 _ rfl (Nat.zero_le _) (st _ ?_ (Heap.get?_push_of_some _ hl1)) k0 (z0 _ (Heap.get?_push_of_some _ at1)) fun s3 mv k3 z3 => ?_
    · simp only [List.mem_cons, List.not_mem_nil, or_false] at m
      rw [sz1] at m
      exact m.elim (fun z => absurd z (Nat.ne_of_lt (Nat.lt_succ_self _))) fun z => absurd z (Nat.ne_of_gt llt)
    · have := Heap.lt_size e
      simp only [List.mem_cons, List.not_mem_nil, or_false]
      rw [sz1]
      exact ⟨Nat.ne_of_lt (Nat.lt_succ_of_lt this), Nat.ne_of_lt this⟩
    · show A.units + 1 + 1 + 1 ≤ _
      omega
    · exact Heap.get?_push_size _ hfr
    · obtain ⟨h3, g3, d3, t3, o3⟩ := s3
      obtain rfl : g3 = s.gens := mv.gens
      obtain rfl : d3 = s.drawn := mv.drawn
      obtain rfl : o3 = s.os := mv.os
      show wpAny _ _ _ _ _ _
      refine wpAny_pure ?_
      show wpAny _ _ (ret Value.none) _ _ _
      exact wpAny_pure ⟨rfl, h3, t3, rfl, z3, k3⟩
  · rcases r with e | (_ | _ | _ | x) <;> first | exact hr | exact hr.elim | skip
    obtain ⟨rfl, h', tk, rfl, z, k⟩ := hr
    repeat (any_goals (first | assumption | wp_step))
    exact q _ _ z k
end
end Sn

set_option Elab.async false
set_option linter.all false
set_option maxRecDepth 100000
set_option maxHeartbeats 4000000
/-! set(a list of texts), set(a tuple of names), sorted(a set of texts). -/
namespace Sn
open PySem PySem.Spec PyProof.Rows L2 Br
theorem pair_at {α β : Type} {R : α → β → Prop} : ∀ {xs : List α} {ys : List β}, Paired R xs ys → ∀ {i : Nat} {y : β}, ys[i]? = some y → ∃ x, xs[i]? = some x ∧ R x y
  | _, _, .nil, _, _, h => by cases h
  | _, _, .cons r _, 0, _, h => by cases h; exact ⟨_, rfl, r⟩
  | _, _, .cons _ t, i + 1, _, h => pair_at t (i := i) h
def TsO (w : World) (a : Addr) (L : List Str) : HO := .ext fun h => T0 w h a L
theorem tsO_ok {P : Program} {w : World} {H : Hp} {h : Heap} {a : Addr} {L : List Str} (Z : T0 w h a L) : ObjOk P w H h a (TsO w a L) :=
  ⟨Z, (let ⟨_, _, _, ⟨o, oa, _⟩, _⟩ := Z; ⟨o, oa⟩), fun _ _ z k => z.at k⟩
/-- L out of these, one after the other -/
inductive GrewL : List (Addr × List Key) → List (Addr × List Key) → Prop
  | nil : GrewL [] []
  | snoc {xs L L' : List (Addr × List Key)} {c : Addr} {k : List Key} : GrewL xs L → Grew L L' c k → GrewL (xs ++ [(c, k)]) L'
theorem GrewL.sub {xs L : List (Addr × List Key)} (g : GrewL xs L) : (∀ p ∈ L, p ∈ xs) ∧ L.length ≤ xs.length := by
  induction g with
  | nil => exact ⟨fun p m => (nomatch m), Nat.le_refl _⟩
  | snoc _ r ih =>
    rw [List.length_append]
    rcases r with ⟨_, rfl⟩ | ⟨_, pm⟩
    · exact ⟨fun p m => List.mem_append_left _ (ih.1 p m), Nat.le_trans ih.2 (Nat.le_add_right _ _)⟩
    · refine ⟨fun p m => (List.mem_cons.mp (pm.mem_iff.mp m)).elim (fun e => List.mem_append_right _ (List.mem_singleton.mpr e)) fun m => List.mem_append_left _ (ih.1 p m), ?_⟩
      rw [pm.length_eq]
      exact Nat.succ_le_succ ih.2
theorem tu_keep {P : Program} {w : World} {h h' : Heap} {k : List Key} {b : Addr} (z : Tu P w h k b) (e : ∀ b o, h.get? b = some o → h'.get? b = some o) : Tu P w h' k b :=
  let ⟨o, its, n, a, r⟩ := z; ⟨o, its, n, e _ _ a, r⟩
theorem N0.at {P : Program} {w : World} {h h' : Heap} {a : Addr} {L : List (Addr × List Key)} (N : N0 P w h a L) (k : ∀ o, h.get? a = some o → h'.get? a = some o) : N0 P w h' a L :=
  let ⟨es, ep, t, ⟨o, oa, r⟩, q⟩ := N; ⟨es, ep, t, ⟨o, k o oa, r⟩, q⟩
theorem n0_at (P : Program) (w : World) {h : Heap} {a : Addr} (ha : h.get? a = some (newS w)) : N0 P w h a [] := by
  refine ⟨#[], 0, _, ⟨_, ha, ⟨rfl, rfl, rfl⟩, rfl⟩, rfl, ⟨List.Pairwise.nil, rfl, rfl, .inl rfl, (fun x z => by cases z), fun i h j z => by cases z⟩, List.nodup_nil, ?_, (by show 0 * 5 < 7 * 3; decide), (by show 0 < 18; decide)⟩
  by_cases b : w.params.followText "set-order" = true
  · exact .inl b
  · exact .inr (by show (!w.params.followText "set-order") = true; rw [Bool.eq_false_iff.mpr b]; rfl)
section
variable {X : Cx}
def rSetT (K : PySem.W.Frag) (w : World) : List V → Hp → VK → Prop := fun vs H Q => ∃ (p : Addr) (ys : List Str), vs = [.ref p] ∧ SqL K H p (ys.map V.str) ∧ ys.length < 4000 ∧
  ∀ (D : Addr) (L : List Str), H D = none → L.Nodup → (∀ y, y ∈ L ↔ y ∈ ys) → L.length ≤ ys.length → Q (.ref D) (upd H D (TsO w D L))
theorem cr_setT (hc : X.calm = true) : CallR X (.type "set") (rSetT X.K X.w) := by
  intro pins s σ H vs us Q I r h
  obtain ⟨p, ys, rfl, sq, few, q⟩ := h
  obtain ⟨u, rfl, ru⟩ := vals1 r
  cases (show u = Value.ref p from ru)
  obtain ⟨its, rv, ⟨o, n, ho, hcl, _, hd⟩, _⟩ := I.list sq
  have ln : its.length = ys.length := by rw [← rv.length, List.length_map]
  have val : ∀ (i : Nat) (v : Value), its.toArray[i]? = some v → ∃ y t, ys[i]? = some y ∧ v = .str y t := fun i v e => by
    have e' : its[i]? = some v := by simpa using e
    obtain ⟨x, hx, rx⟩ := pair_at rv e'
    rw [List.getElem?_map] at hx
    cases hy : ys[i]? with
    | none => rw [hy] at hx; cases hx
    | some y =>
      rw [hy] at hx
      cases hx
      obtain ⟨t, rfl⟩ := rx
      exact ⟨y, t, rfl, rfl⟩
  have isl : ∀ h : Heap, h.get? p = some o → h.IsList p its.toArray := fun h e => ⟨o, e, hcl, n, hd⟩
  refine set_call (T := "list") (n := its.toArray.size) (Pv := fun i v => its.toArray[i]? = some v) (io := { cls := .type "list_iterator", data := .fields #[.ref p, .int 0 0] })
    (Z := fun i h => ∃ L : List Str, T0 X.w h s.heap.objs.size L ∧ (∀ y, y ∈ L ↔ y ∈ ys.take i) ∧ L.length ≤ i) (I.ok.hd hc) rfl ho hcl F.sub_list_set F.sub_list_frozenset (by decide)
    (fun A' It hh ne => ⟨_, Walks.list hh It p ne its.toArray, fun h e1 e2 => ⟨⟨_, e1, rfl, rfl⟩, isl h e2⟩⟩) (fun A' s1 Q1 E1 e q1 => wpAny_pyIter_list (isl _ e) q1)
    (fun h e => ⟨[], t0_new X.w e, (fun y => by simp), Nat.le_refl _⟩) (fun i h h' z k => let ⟨L, z1, z2⟩ := z; ⟨L, z1.at k, z2⟩) (fun A' i v s1 Q1 E1 _ lt pv k z q1 => ?_) fun h' tk z k => ?_
  · obtain ⟨L, z1, z2, z3⟩ := z
    obtain ⟨y, t, hy, rfl⟩ := val i v pv
    have lt' : i < ys.length := (List.getElem?_eq_some_iff.mp hy).1
    refine tx_setAdd z1 (by unfold scanBound; omega) fun b h' L' tk le sb Z' gr => q1 b h' tk le sb ⟨L', Z', fun x => ?_, ?_⟩
    · rw [List.take_add_one, hy, List.mem_append, ← z2 x, Option.toList_some, List.mem_singleton]
      rcases gr with ⟨m, rfl⟩ | ⟨_, pm⟩
      · exact ⟨.inl, fun z => z.elim id fun e => e ▸ m⟩
      · rw [pm.mem_iff, List.mem_cons]
        exact Or.comm
    · rcases gr with ⟨m, rfl⟩ | ⟨_, pm⟩
      · omega
      · rw [pm.length_eq, List.length_cons]; omega
  · obtain ⟨L, z1, z2, z3⟩ := z
    have e : its.toArray.size = ys.length := by simpa using ln
    rw [e, List.take_length] at z2
    rw [e] at z3
    have nd : L.Nodup := let ⟨_, _, _, _, _, _, d, _⟩ := z1; d
    exact ⟨.ref _, _, I.laid (t' := tk) k (Nat.le_refl _) (tsO_ok z1), rfl, q _ L (I.hok.fresh (Nat.le_refl _)) nd z2 z3⟩
def rSetN (K : PySem.W.Frag) (P : Program) (w : World) : List V → Hp → VK → Prop := fun vs H Q => ∃ (p : Addr) (xs : List (Addr × List Key)), vs = [.ref p] ∧ SqT K H p (xs.map fun x => V.ref x.1) ∧ (∀ x ∈ xs, SqT K H x.1 (x.2.map kV)) ∧ xs.length < 17 ∧
  ∀ (D : Addr) (L : List (Addr × List Key)), H D = none → GrewL xs L → Q (.ref D) (upd H D (NsO P w D L))
theorem cr_setN (hu : X.A.units + 64 < cLine) (hc : X.calm = true) : CallR X (.type "set") (rSetN X.K X.prog X.w) := by
  intro pins s σ H vs us Q I r h
  obtain ⟨p, xs, rfl, sq, tu, few, q⟩ := h
  obtain ⟨u, rfl, ru⟩ := vals1 r
  cases (show u = Value.ref p from ru)
  obtain ⟨its, rv, ⟨o, ho, hcl, n, hd⟩, _⟩ := I.tuple sq
  have ln : its.length = xs.length := by rw [← rv.length, List.length_map]
  have val : ∀ (i : Nat) (v : Value), its.toArray[i]? = some v → ∃ x, xs[i]? = some x ∧ v = .ref x.1 := fun i v e => by
    have e' : its[i]? = some v := by simpa using e
    obtain ⟨x, hx, rx⟩ := pair_at rv e'
    rw [List.getElem?_map] at hx
    cases hy : xs[i]? with
    | none => rw [hy] at hx; cases hx
    | some y =>
      rw [hy] at hx
      cases hx
      exact ⟨y, rfl, rx⟩
  have isl : ∀ h : Heap, h.get? p = some o → h.IsTuple p its.toArray := fun h e => ⟨o, e, hcl, n, hd⟩
  have tu0 : ∀ x ∈ xs, Tu X.prog X.w s.heap x.2 x.1 := fun x m => tu_of I (tu x m)
  refine set_call (T := "tuple") (n := its.toArray.size) (Pv := fun i v => its.toArray[i]? = some v) (io := { cls := .type "tuple_iterator", data := .fields #[.ref p, .int 0 0] })
    (Z := fun i h => ∃ L : List (Addr × List Key), N0 X.prog X.w h s.heap.objs.size L ∧ GrewL (xs.take i) L) (I.ok.hd hc) rfl ho hcl F.sub_tuple_set F.sub_tuple_frozenset (by decide)
    (fun A' It hh ne => ⟨_, Walks.tuple hh It p ne its.toArray, fun h e1 e2 => ⟨⟨_, e1, rfl, rfl⟩, isl h e2⟩⟩) (fun A' s1 Q1 E1 e q1 => wpAny_pyIter_tuple (isl _ e) q1)
    (fun h e => ⟨[], n0_at _ _ e, .nil⟩) (fun i h h' z k => let ⟨L, z1, z2⟩ := z; ⟨L, z1.at k, z2⟩) (fun A' i v s1 Q1 E1 hu' lt pv k z q1 => ?_) fun h' tk z k => ?_
  · obtain ⟨L, z1, z2⟩ := z
    obtain ⟨x, hx, rfl⟩ := val i v pv
    have lt' : i < xs.length := (List.getElem?_eq_some_iff.mp hx).1
    have sub := z2.sub
    obtain ⟨es, ep, t, S⟩ := z1.tr fun y m => tu_keep (tu0 y (List.mem_of_mem_take (sub.1 y m))) k
    have ll : L.length ≤ i := by
      have := sub.2
      rw [List.length_take] at this
      omega
    refine n_setAdd S (tu_keep (tu0 x (List.mem_of_getElem? hx)) k) (by omega) (by omega) fun b h' L' tk le sb N' gr => q1 b h' tk le sb ⟨L', N', ?_⟩
    rw [List.take_add_one, hx]
    exact .snoc z2 gr
  · obtain ⟨L, z1, z2⟩ := z
    have e : its.toArray.size = xs.length := by simpa using ln
    rw [e, List.take_length] at z2
    exact ⟨.ref _, _, I.laid (t' := tk) k (Nat.le_refl _) (nsO_ok z1), rfl, q _ L (I.hok.fresh (Nat.le_refl _)) z2⟩
def rSortTx (w : World) : List V → Hp → VK → Prop := fun vs H Q => ∃ (a : Addr) (L : List Str), vs = [.ref a] ∧ H a = some (TsO w a L) ∧ L.length < 64 ∧ ∀ ys p, ys.Perm L → sortedS ys = true → H p = none → Q (.ref p) (upd H p (.lst (ys.map V.str)))
theorem cr_sortTx (hc : X.calm = true) : CallR X (.builtin "sorted") (rSortTx X.w) := by
  intro pins s σ H vs us Q I r h
  obtain ⟨a, L, rfl, ha, few, q⟩ := h
  obtain ⟨u, rfl, ru⟩ := vals1 r
  cases (show u = Value.ref a from ru)
  obtain ⟨es, ep, t, ⟨o, oa, ox, od⟩, rfl, g, nd, ft, ri, ld⟩ : T0 X.w s.heap a L := (I.hok a _ ha).1
  have sz : es.size < 64 := by rwa [List.length_map, Array.length_toList] at few
  refine Calls.call_function_entry kind_sorted plain_sorted entry_sorted (args_sorted1 _) ?_
  unfold Builtin.«sorted»
  refine wpAny_bind (m := checkCount "sorted" 1 1 _) (wpAny_pure (wpAny_bind (collect_set (A := X.A.in1) (I.ok.hd hc) ⟨o, oa, ox.1, od⟩ ft (by unfold scanBound; omega) ri ld fun s1 out k1 z1 g1 o1 pm => ?_)))
  have all : ∀ v ∈ out, ∃ x t, v = Value.str x t := fun v m => by
    obtain ⟨e, he, rfl⟩ := List.mem_map.mp (pm.mem_iff.mp m)
    obtain ⟨x, t, e1, _⟩ := g e he
    exact ⟨x, t, e1⟩
  have hS := strsAre_map out all
  have pt : (out.map strOf).Perm (es.toList.map ktx) := by
    have := pm.map strOf
    rw [List.map_map] at this
    exact this
  have lo : out.length < 64 := by
    have e1 : out.length = es.size := by rw [pm.length_eq, List.length_map, Array.length_toList]
    rw [e1]
    exact sz
  have lsz : out.length ≤ sizeLine := Nat.le_trans (Nat.le_of_lt lo) (by decide)
  refine wpAny_bind (wpAny_newList ?_ lsz)
  have at1 : (s1.heap.push (seqObj "list" out.toArray 0)).get? s1.heap.objs.size = some (seqObj "list" out.toArray 0) := Heap.get?_push_size _ rfl
  refine wpAny_bind (wpAny_holding (wpAny_call_entry slot_list_sort ⟨_, at1, rfl⟩ entry_list_sort (list_sort_treeK strKind_oneLt (s := { s1 with heap := s1.heap.push (seqObj "list" out.toArray 0) }) at1 hS.keysOf (fun v1 v2 rest e => keyKind_strs (by rw [← e]; exact hS)) lo fun st' hp hs => ⟨_, rfl, ?_⟩) (args_list_sort _)))
  obtain ⟨ys, y1, y2, y3⟩ := sorted_out_str hS hp hs
  obtain ⟨e', he'⟩ := sortedHeap_at (vs := out) (out := (arrOf st').map (·.2)) at1
  have ly : (ys.map V.str).length ≤ sizeLine := by
    rw [List.length_map, y2.length_eq, List.length_map]
    exact lsz
  have old : ∀ b u, s.heap.get? b = some u → (sortedHeap (s1.heap.push (seqObj "list" out.toArray 0)) s1.heap.objs.size out ((arrOf st').map (·.2))).get? b = some u := fun b u e => by
    have z := k1 b u e
    have lt := Heap.lt_size z
    rw [sortedHeap_old (Nat.ne_of_lt lt) (by rw [Heap.size_push]; exact Nat.lt_succ_of_lt lt)]
    exact Heap.get?_push_of_some _ z
  have J : Inv X pins σ (upd H s1.heap.objs.size (.lst (ys.map V.str))) { s with heap := sortedHeap (s1.heap.push (seqObj "list" out.toArray 0)) s1.heap.objs.size out ((arrOf st').map (·.2)), gens := s1.gens, drawn := s1.drawn, toks := s1.toks } :=
    I.call (ch := []) (Un.laid old z1 (I.hok.fresh z1)) (I.hok.laid old z1 ⟨ly, _, e', vals_of_strs y1, he'⟩) (by rw [g1]; exact I.bare) fun _ z => nomatch z
  have es1 : ({ s1 with heap := sortedHeap (s1.heap.push (seqObj "list" out.toArray 0)) s1.heap.objs.size out ((arrOf st').map (·.2)) } : Shared) = { s with heap := sortedHeap (s1.heap.push (seqObj "list" out.toArray 0)) s1.heap.objs.size out ((arrOf st').map (·.2)), gens := s1.gens, drawn := s1.drawn, toks := s1.toks } := by
    cases s1; cases s; cases o1; rfl
  refine wpAny_pure ⟨_, rfl, ?_⟩
  show ∃ v H', _
  rw [es1]
  exact ⟨.ref s1.heap.objs.size, _, J, rfl, q ys _ (y2.trans pt) y3 (I.hok.fresh z1)⟩
end
end Sn

set_option Elab.async false
set_option linter.all false
set_option maxRecDepth 100000
set_option maxHeartbeats 4000000
/-! set(a list of texts), set(a tuple of names), both sorted; s.count(t); repr of data with dicts. -/
namespace Dl
open PySem PySem.Spec PyProof.Rows L2 Br Sn
section
variable {K : PySem.W.Frag} {P : Program} {w : World}
def pT (w : World) : PF := fun _ G H v d => ∃ (p : Addr) (L : List Str), v = .ref p ∧ H p = some (TsO w p L) ∧ d = .list (L.map .str)
def fT (w : World) : Fl := fun _ _ _ G H v d => ∃ (p : Addr) (L : List Str), v = .ref p ∧ H p = some (TsO w p L) ∧ d = .list (L.map .str)
def pN (P : Program) (w : World) (K : PySem.W.Frag) : PF := fun _ G H v d => ∃ (p : Addr) (zs : List Zr), v = .ref p ∧ H p = some (NsO P w p (zs.map (·.1))) ∧ d = .list (zs.map (·.2)) ∧ ZsIn K G zs
theorem embT : Emb K (pT w) (fT w) := fun _ _ _ _ _ _ _ _ _ _ _ _ _ h => h
theorem embN : Emb K (pN P w K) (fN P w K) := fun _ _ _ _ _ _ _ _ _ _ _ _ _ h => h
def oSetT : O1 := fun a k => match a with
  | .list ds => match strsOf ds with
    | some ys => ys.length < 4000 ∧ ∀ L : List Str, L.Nodup → (∀ y, y ∈ L ↔ y ∈ ys) → L.length ≤ ys.length → k (.list (L.map .str))
    | none => False
  | _ => False
def oSetN : O1 := fun a k => match a with
  | .tuple _ ds => ds.all isPr = true ∧ ds.length < 17 ∧ ∀ es : List D, Dd ds es → es.all isPr = true → k (.list es)
  | _ => False
def oSortTx : O1 := fun a k => match a with
  | .list ds => match strsOf ds with
    | some L => L.length < 64 ∧ ∀ ys : List Str, ys.Perm L → sortedS ys = true → k (.list (ys.map .str))
    | none => False
  | _ => False
theorem mo_setT : Mo1 oSetT := fun a k k' w h => by
  cases a <;> first | exact h.elim | skip
  unfold oSetT at h ⊢
  dsimp only at h ⊢
  split at h
  · exact ⟨h.1, fun L a b c => w _ (h.2 L a b c)⟩
  · exact h.elim
theorem mo_setN : Mo1 oSetN := fun a k k' w h => by cases a <;> first | exact h.elim | exact ⟨h.1, h.2.1, fun es a b => w _ (h.2.2 es a b)⟩
theorem mo_sortTx : Mo1 oSortTx := fun a k k' w h => by
  cases a <;> first | exact h.elim | skip
  unfold oSortTx at h ⊢
  dsimp only at h ⊢
  split at h
  · exact ⟨h.1, fun L a b => w _ (h.2 L a b)⟩
  · exact h.elim
theorem strsOf_map : ∀ L : List Str, strsOf (L.map D.str) = some L
  | [] => rfl
  | x :: L => by show (strsOf (L.map D.str)).map (x :: ·) = _; rw [strsOf_map L]; rfl
theorem zs_of {G H : Hp} (g : Same G H) : ∀ {vs : List V} {ds : List D}, RpAll K G vs ds → ds.all isPr = true → ∃ zs : List Zr, vs = zs.map (fun z => V.ref z.1.1) ∧ ds = zs.map (·.2) ∧ ZsIn K G zs
  | _, _, .nil, _ => ⟨[], rfl, rfl, fun _ m => nomatch m⟩
  | _, _, .cons (d := d) (ds := ds) r rs, h => by
    have h' : (isPr d && ds.all isPr) = true := h
    rw [Bool.and_eq_true] at h'
    obtain ⟨zs, e1, e2, z⟩ := zs_of g rs h'.2
    obtain ⟨b, eb, _⟩ := pr_name g r h'.1
    subst eb
    refine ⟨((b, nkeys (prOf d)), d) :: zs, by rw [e1]; rfl, by rw [e2]; rfl, fun y m => ?_⟩
    rcases List.mem_cons.mp m with rfl | m
    · exact ⟨r, h'.1, rfl⟩
    · exact z y m
theorem zs_grewL {G : Hp} {xs L : List (Addr × List Key)} (g : GrewL xs L) : ∀ zs : List Zr, xs = zs.map (·.1) → ZsIn K G zs → ∃ zs' : List Zr, L = zs'.map (·.1) ∧ ZsIn K G zs' ∧ Dd (zs.map (·.2)) (zs'.map (·.2)) := by
  induction g with
  | nil =>
    intro zs e _
    rw [List.map_eq_nil_iff.mp e.symm]
    exact ⟨[], rfl, (fun _ m => nomatch m), dd_nil⟩
  | snoc _ gr ih =>
    intro zs e z
    obtain ⟨l1, l2, rfl, e1, e2⟩ := List.map_eq_append_iff.mp e.symm
    obtain ⟨y, rfl, e3⟩ := List.map_eq_singleton_iff.mp e2
    obtain ⟨zs', rfl, z', dd⟩ := ih l1 e1.symm fun x m => z x (List.mem_append_left _ m)
    obtain ⟨r, ip, ek⟩ := z y (List.mem_append_right _ List.mem_cons_self)
    have e4 : (y.1.1, y.1.2) = _ := e3
    injection e4 with a1 a2
    rw [← a1, ← a2, ek] at gr
    obtain ⟨zs2, q1, q2, q3, _⟩ := zs_grew z' dd r ip gr
    exact ⟨zs2, q1, q2, by rw [List.map_append]; exact q3⟩
end
section
variable {K : PySem.W.Frag} {X : Cx} {a b : Expr} {ma mb : ME} {pos p : Pos}
theorem callr_setT (hc : X.calm = true) : CallR X (.type "set") (fun xs H Q => ∃ x, xs = [x] ∧ rO1 X.K (pT X.w) oSetT x H Q) := by
  intro pins s σ H xs us Q I r h
  obtain ⟨x, rfl, G, d, g, hx, q⟩ := h
  cases d <;> first | exact q.elim | skip
  unfold oSetT at q
  dsimp only at q
  split at q
  · rename_i ds ys e
    obtain ⟨l, vs, rfl, rd, ra⟩ := vw_list g hx
    rw [strs_V ra e] at rd
    exact cr_setT hc pins s σ H _ us Q I r ⟨l, ys, rfl, .inl rd, q.1, fun D L np nd mm le => q.2 L nd mm le _ G _ (same_new1 g np) (stp_new np) ⟨D, L, rfl, upd_same, rfl⟩⟩
  · exact q.elim
theorem callr_setN (hu : X.A.units + 64 < cLine) (hc : X.calm = true) : CallR X (.type "set") (fun xs H Q => ∃ x, xs = [x] ∧ rO1 X.K (pN X.prog X.w X.K) oSetN x H Q) := by
  intro pins s σ H xs us Q I r h
  obtain ⟨x, rfl, G, d, g, hx, q⟩ := h
  cases d <;> first | exact q.elim | skip
  obtain ⟨l, ys, rfl, s1, sq, ra⟩ := vw_tup g hx
  obtain ⟨zs, rfl, rfl, za⟩ := zs_of g ra q.1
  refine cr_setN hu hc pins s σ H _ us Q I r ⟨l, zs.map (·.1), rfl, by rw [List.map_map]; exact sq, fun x m => ?_, by have := q.2.1; simpa using this, fun D L np gr => ?_⟩
  · exact zs_tu g za x m
  · obtain ⟨zs', rfl, z', dd⟩ := zs_grewL gr zs rfl za
    exact q.2.2 _ dd (List.all_eq_true.mpr fun d m => by obtain ⟨z, hz, rfl⟩ := List.mem_map.mp m; exact (z' z hz).2.1) _ G _ (same_new1 g np) (stp_new np) ⟨D, zs', rfl, upd_same, rfl, z'⟩
theorem se_setT (hK : X.K = K) (hc : X.calm = true) (hg : Gl X "set") (hm : X.mg "set" = none) (ha : SE K (fV K) X a ma) (hs : starEach [a] X.env = [(false, eval a X.env)] := by rfl) (hpl : (backTo pos (starEach [] X.env)).any (·.1) = false := by rfl) :
    SE K (fT X.w) X (.Call (.Name "set" p) [a] [] pos) (mUn oSetT ma) := by
  subst hK
  exact se_t1 (callr_setT hc) (fun y H Q h => ⟨y, rfl, h⟩) mo_setT embT hg hm (by decide +kernel) ha hs (by decide) (by decide) hpl
theorem se_setN {k : Nat} (hK : X.K = K) (hr : Room k X.A) (hc : X.calm = true) (hg : Gl X "set") (hm : X.mg "set" = none) (ha : SE K (fV K) X a ma) (hs : starEach [a] X.env = [(false, eval a X.env)] := by rfl) (hpl : (backTo pos (starEach [] X.env)).any (·.1) = false := by rfl) :
    SE K (fN X.prog X.w K) X (.Call (.Name "set" p) [a] [] pos) (mUn oSetN ma) := by
  subst hK
  exact se_t1 (callr_setN hr.units hc) (fun y H Q h => ⟨y, rfl, h⟩) mo_setN embN hg hm (by decide +kernel) ha hs (by decide) (by decide) hpl
theorem sortTx_is {L : List Str} {k : D → Prop} (h : oSortTx (.list (L.map .str)) k) : L.length < 64 ∧ ∀ ys : List Str, ys.Perm L → sortedS ys = true → k (.list (ys.map .str)) := by
  unfold oSortTx at h
  dsimp only at h
  rw [strsOf_map] at h
  exact h
/-- sorted(set(a list of texts)) -/
theorem se_sorted_tx (hK : X.K = K) (hc : X.calm = true) (hg : Gl X "sorted") (hm : X.mg "sorted" = none) (ha : SE K (fT X.w) X a ma) (hs : starEach [a] X.env = [(false, eval a X.env)] := by rfl) (hpl : (backTo pos (starEach [] X.env)).any (·.1) = false := by rfl) :
    SE K (fF K) X (.Call (.Name "sorted" p) [a] [] pos) (mUn oSortTx ma) := by
  subst hK
  refine ⟨mo_un mo_sortTx ha.mono, pe_weak (pe_callB (cr_sortTx hc) hg hm (by decide +kernel) (pa_cons ha.pe pa_nil hs) (by decide) (by decide) hs hpl) fun σ H Q h => ?_⟩
  obtain ⟨G, ρ, R, h⟩ := h
  refine ⟨G, ρ, R, ha.mono ρ _ _ (fun da ρ1 q y G1 H1 R1 l1 ry => ?_) h⟩
  obtain ⟨p, L, rfl, hp, rfl⟩ := ry
  have q' := sortTx_is q
  refine ⟨p, L, rfl, hp, q'.1, fun ys p' pm so np => ?_⟩
  have st := stp_new (G := G1) (o := .lst (ys.map V.str)) np
  have R2 := R1.pure st (same_new1 R1.gh np)
  exact q'.2 ys pm so _ G1 _ R2 (l1.trans (.pure st)) ⟨p', _, rfl, l1.st.dom p' np, fun w => R1.old w np, upd_same, R1.gh.free np, .lst (rps_strs ys)⟩
/-- s.count(t) -/
def mCount (ma mb : ME) : ME := fun ρ k => ma ρ fun da ρ1 => match da with
  | .str x => mb ρ1 fun db ρ2 => match db with
    | .str y => k (.int (Txt.count x y)) ρ2
    | _ => False
  | _ => False
theorem se_count {ap : Pos} (hK : X.K = K) (ha : SE K (fE K) X a ma) (hb : SE K (fE K) X b mb) (hs : starEach [b] X.env = [(false, eval b X.env)] := by rfl) (hbase : attributeBase a "count" X.env (eval a X.env) = eval a X.env := by rfl) (hline : (ap.endLine == pos.line) = true := by rfl) :
    SE K (fE K) X (.Call (.Attribute a "count" ap) [b] [] pos) (mCount ma mb) := by
  constructor
  · intro ρ k k' w
    refine ha.mono ρ _ _ fun da ρ1 q => ?_
    cases da <;> first | exact q.elim | skip
    refine hb.mono ρ1 _ _ (fun db ρ2 q => ?_) q
    cases db <;> first | exact q.elim | exact w _ _ q
  · refine pe_weak (pe_m1 PySem.F.slot_str_count PySem.F.type_str_count mt_count ha.pe hb.pe hs hbase hline) fun σ H Q ⟨G, ρ, R, q⟩ => ⟨G, ρ, R, ha.mono ρ _ _ (fun da ρ1 q x G1 H1 R1 l1 rx => ?_) q⟩
    cases da <;> first | exact q.elim | skip
    rename_i sx
    cases rx
    refine ⟨⟨_, rfl⟩, G1, ρ1, R1, hb.mono ρ1 _ _ (fun db ρ2 q y G2 H2 R2 l2 ry => ?_) q⟩
    cases db <;> first | exact q.elim | skip
    rename_i sy
    cases ry
    exact ⟨sx, sy, rfl, rfl, q _ G2 _ R2 (l1.trans l2) (.int _)⟩
/-! ### repr, dicts within -/
def oReprX : O1 := fun d k => (toPy d).showable = true ∧ ((toPy d).hasDict = false ∨ noL d = true) ∧ (toPy d).depth ≤ 60 ∧ (toPy d).shown.length ≤ sizeLine ∧ k (.str (toPy d).shown)
theorem mo_reprX : Mo1 oReprX := fun a k k' w h => ⟨h.1, h.2.1, h.2.2.1, h.2.2.2.1, w _ h.2.2.2.2⟩
theorem callr_reprX (hu : X.A.units + 64 < cLine) (hG : Bare X.A) : CallR X (.builtin "repr") (fun xs H Q => ∃ x, xs = [x] ∧ rO1 X.K (pE X.K) oReprX x H Q) := by
  intro pins s σ H xs us Q I r h
  obtain ⟨x, rfl, G, d, g, hx, h1, h2, h3, h4, q⟩ := h
  rcases h2 with h2 | h2
  · exact callr_repr hu hG pins s σ H _ us Q I r ⟨x, rfl, G, d, g, hx, h1, h2, h3, h4, q⟩
  by_cases hd : (toPy d).hasDict = false
  · exact callr_repr hu hG pins s σ H _ us Q I r ⟨x, rfl, G, d, g, hx, h1, hd, h3, h4, q⟩
  have rx := vw_rp g hx
  have fin : Q (.str (toPy d).shown) H := stay g q (.str _)
  obtain ⟨a, rfl⟩ : ∃ a, x = .ref a := by
    cases d <;> first | exact absurd rfl hd | skip
    · cases rx; exact ⟨_, rfl⟩
    · obtain ⟨p, ys, rfl, _⟩ := rp_tup rx; exact ⟨_, rfl⟩
    · cases rx <;> exact ⟨_, rfl⟩
    · cases rx; exact ⟨_, rfl⟩
    · cases rx; exact ⟨_, rfl⟩
    · cases rx <;> exact ⟨_, rfl⟩
  obtain ⟨u, rfl, ru⟩ := vals1 r
  cases (show u = Value.ref a from ru)
  obtain ⟨as, hR, ns⟩ := rp_reads I rx h2 _ rfl
  exact repr_of_reads' hR h1 (fun _ => ns) hG (by omega) (fun _ _ e => e) (fun h' u tk hk => ⟨.str _, H, I.kept hk, ⟨_, rfl⟩, fin⟩) h4
theorem se_reprX {k : Nat} (hK : X.K = K) (hG : Bare X.A) (hr : Room k X.A) (hg : Gl X "repr") (hm : X.mg "repr" = none) (ha : SE K (fV K) X a ma) (hs : starEach [a] X.env = [(false, eval a X.env)] := by rfl) (hpl : (backTo pos (starEach [] X.env)).any (·.1) = false := by rfl) :
    SE K (fE K) X (.Call (.Name "repr" p) [a] [] pos) (mUn oReprX ma) := by
  subst hK
  exact se_b1 (id := "repr") (callr_reprX hr.units hG) (fun y H Q h => ⟨y, rfl, h⟩) mo_reprX embE hg hm (by decide +kernel) ha hs (by decide) (by decide) hpl
/-! ### xs + [..], xs a list of one's own -/
def mCatO (i : Nat) (mb : ME) : ME := fun ρ k => (∃ xs0, ρ[i]? = some (.own (.list xs0))) ∧ mb ρ fun db ρ2 => ∃ xs ys, ρ2[i]? = some (.own (.list xs)) ∧ db = .list ys ∧ xs.length + ys.length ≤ 1000 ∧ k (.list (xs ++ ys)) ρ2
theorem se_catO {i : Nat} (hK : X.K = K) (ha : PE X a (tVar i)) (hb : SE K (fF K) X b mb) : SE K (fF K) X (.BinOp a .Add b pos) (mCatO i mb) := by
  subst hK
  refine ⟨fun ρ k k' w h => ⟨h.1, hb.mono ρ _ _ (fun db ρ2 ⟨xs, ys, e1, e2, e3, q⟩ => ⟨xs, ys, e1, e2, e3, w _ _ q⟩) h.2⟩, pe_weak (pe_op op_cat ha hb.pe) fun σ H Q h => ?_⟩
  obtain ⟨G, ρ, R, ⟨xs0, e0⟩, h⟩ := h
  obtain ⟨p, ob, hv, _⟩ := R.own i _ e0
  refine ⟨.ref p, hv, G, ρ, R, hb.mono ρ _ _ (fun db ρ2 q2 y G2 H2 R2 l2 ry => ?_) h⟩
  obtain ⟨xs, ys, e1, rfl, few, q⟩ := q2
  obtain ⟨p', ob', hv', hp', _, rr⟩ := R2.own i _ e1
  rw [hv] at hv'
  cases hv'
  obtain ⟨q', o', rfl, _, _, hq', _, rr'⟩ := ry
  cases rr with
  | lst ra =>
    cases rr' with
    | lst rb =>
      rename_i vs ws
      refine ⟨p, q', _, _, rfl, rfl, hp', hq', by rw [rps_len ra, rps_len rb, sizeLine_eq]; omega, fun n np => ?_⟩
      have st := stp_new (G := G2) (o := .lst (vs ++ ws)) np
      exact q _ G2 _ (R2.pure st (same_new1 R2.gh np)) (l2.trans (.pure st)) ⟨n, _, rfl, l2.st.dom n np, fun w => R2.old w np, upd_same, R2.gh.free np, .lst (rps_app ra rb)⟩
end
/-! ### isinstance(x, c) of data -/
def tnD : D → String
  | .none => "NoneType"
  | .bool _ => "bool"
  | .int _ => "int"
  | .str _ => "str"
  | .list _ => "list"
  | .tuple _ _ => "tuple"
  | .dict _ => "dict"
  | .scr _ => "list"
  | .fn _ => "NoneType"
  | .exc _ _ _ => "NoneType"
def isFn : D → Bool
  | .fn _ => true
  | .exc _ _ _ => true
  | _ => false
def isi (c t : String) : Bool := c == t || (c == "int" && t == "bool")
def oIsInst (c : String) : O1 := fun d k => isFn d = false ∧ k (.bool (isi c (tnD d)))
theorem mo_isInst {c : String} : Mo1 (oIsInst c) := fun a k k' w h => ⟨h.1, w _ h.2⟩
def tyNames : List String := ["NoneType", "bool", "int", "str", "list", "tuple", "dict"]
theorem tnD_in (d : D) : tnD d ∈ tyNames := by cases d <;> (unfold tnD tyNames; simp)
theorem isi_all : ∀ c ∈ (["str", "int", "bool", "tuple"] : List String), ∀ t ∈ tyNames, kitB t c = some (isi c t) := by decide +kernel
theorem isi_kit (K : PySem.W.Frag) (d : D) {c : String} (hc : c ∈ ["str", "int", "bool", "tuple"]) : PySem.W.kitOne K (.type (tnD d)) (.type c) = some (isi c (tnD d)) := kit_ty (isi_all c hc _ (tnD_in d))
theorem kit_rp {X : Cx} {pins : List (Addr × Obj)} {σ : L2.St} {H : Hp} {s : Shared} {v : V} {d : D} {u : Value} (I : Inv X pins σ H s) (nf : isFn d = false) (r : Rp X.K H v d) (rv : RelV v u) : ∃ P : Heap → Prop, PySem.W.KitX X.K u (.type (tnD d)) P ∧ P s.heap ∧ u ≠ .builtin "__main__.__loader__#opaque" := by
  cases r with
  | fn f => cases nf
  | exn _ _ => cases nf
  | exf _ _ _ _ _ => cases nf
  | non => exact kit_of I rv (.base .non)
  | bl b => exact kit_of I rv (.base (.bl b))
  | int i => exact kit_of I rv (.base (.int i))
  | str x => exact kit_of I rv (.base (.str x))
  | lst q _ => exact q.elim (fun e => kit_of I rv (.base (.lst e))) fun ⟨_, e⟩ => kit_of I rv (.base (.frz e))
  | tup e _ => exact kit_of I rv (.base (.tup e))
  | tupC q _ => exact q.elim (fun q => q.elim (fun e => kit_of I rv (.base (.tup e))) fun ⟨_, e⟩ => kit_of I rv (.fTuple e)) fun ⟨_, _, _, e, c, _⟩ => kit_of I rv (.kTuple e c)
  | tupZ e _ _ => exact kit_of I rv (.fTuple e)
  | scr q => exact q.elim (fun q => q.elim (fun e => kit_of I rv (.base (.lst e))) fun ⟨_, e⟩ => kit_of I rv (.base (.frz e))) fun ⟨_, _, _, e, c, _⟩ => kit_of I rv (.kList e c)
  | dK q _ _ =>
    cases (show u = Value.ref _ from rv)
    obtain ⟨_, _, vs, _, o, es, ep, h1, h2, _⟩ := dk_rd I.hok q
    exact ⟨_, PySem.W.kitx_dict, ⟨o, h1, h2.1⟩, fun z => nomatch z⟩
  | dT q _ _ =>
    cases (show u = Value.ref _ from rv)
    obtain ⟨_, _, vs, _, o, es, ep, h1, h2, _⟩ := dt_rd I.hok q
    exact ⟨_, PySem.W.kitx_dict, ⟨o, h1, h2.1⟩, fun z => nomatch z⟩
section
variable {K : PySem.W.Frag} {X : Cx} {a b : Expr} {ma mb : ME} {pos p p2 : Pos}
theorem callr_isD {c : String} (hc : c ∈ ["str", "int", "bool", "tuple"]) : CallR X (.builtin "isinstance") (fun xs H Q => ∃ x G d, xs = [x, .ty c] ∧ Same G H ∧ Vw X.K G H x d ∧ isFn d = false ∧ Q (.bl (isi c (tnD d))) H) := by
  intro pins s σ H xs us Q I r h
  obtain ⟨x, G, d, rfl, g, hx, nf, q⟩ := h
  obtain ⟨u1, u2, rfl, r1, r2⟩ := vals2 r
  cases (show u2 = Value.type c from r2)
  obtain ⟨P, Z, p, ne⟩ := kit_rp I nf (vw_rp g hx) r1
  exact PySem.W.kia_one Z I.kIn p (isi_kit X.K d hc) ne fun tk => ⟨.bl _, H, I.tok tk, rfl, q⟩
theorem se_isinst {c : String} {y : Str} (hK : X.K = K) (hg : Gl X "isinstance") (hm : X.mg "isinstance" = none) (hg2 : Gl X y) (hm2 : X.mg y = none) (ha : SE K (fV K) X a ma) (hc : c ∈ ["str", "int", "bool", "tuple"] := by decide) (hv : bootBuiltins y = some (.type c) := by decide +kernel)
    (hn : y ≠ "__name__" := by decide) (hd : (y == ("__debug__" : Str)) = false := by decide)
    (hs : starEach [a, .Name y p2] X.env = [(false, eval a X.env), (false, eval (.Name y p2) X.env)] := by rfl) (hs2 : starEach [.Name y p2] X.env = [(false, eval (.Name y p2) X.env)] := by rfl) (hpl : (backTo pos (starEach [.Name y p2] X.env)).any (·.1) = false := by rfl) :
    SE K (fE K) X (.Call (.Name "isinstance" p) [a, .Name y p2] [] pos) (mUn (oIsInst c) ma) := by
  subst hK
  refine ⟨mo_un mo_isInst ha.mono, pe_weak (pe_callB (callr_isD hc) hg hm (by decide +kernel) (pa_cons ha.pe (pa_cons (pe_bltn (v := .ty c) hg2 hm2 hv rfl hn hd) pa_nil hs2) hs) (by decide) (by decide) hs hpl) fun σ H Q ⟨G, ρ, R, h⟩ => ?_⟩
  refine ⟨G, ρ, R, ha.mono ρ _ _ (fun da ρ1 q y G1 H1 R1 l1 ry => ?_) h⟩
  exact ⟨y, G1, da, rfl, R1.gh, ry, q.1, q.2 _ G1 H1 R1 l1 (.bl _)⟩
end
end Dl

set_option Elab.async false
set_option linter.all false
set_option maxRecDepth 100000
set_option maxHeartbeats 4000000
/-! isinstance of a thing that may be an empty dict; a def that raises nothing here. -/
namespace Br
open PySem PySem.Spec PyProof.Rows L2 Dl
/-- what is known of a thing's class -/
inductive TyD (K : PySem.W.Frag) (H : Hp) : V → Value → Prop where
  | x {v : V} {t : Value} (h : TyX K H v t) : TyD K H v t
  | dic {a : Addr} (h : Rd H a (.dK []) ∨ Rd H a (.dT [])) : TyD K H (.ref a) (.type "dict")
def rIsiD (K : PySem.W.Frag) : List V → Hp → VK → Prop := fun xs H Q => ∃ (v c : V) (t u : Value) (b : Bool), xs = [v, c] ∧ ClsV c u ∧ TyD K H v t ∧ PySem.W.kitOne K t u = some b ∧ Q (.bl b) H
theorem call_isiD {X : Cx} : CallR X (.builtin "isinstance") (rIsiD X.K) := by
  intro pins s σ H xs us Q I r h
  obtain ⟨v, c, t, u, b, rfl, k, ty, e, q⟩ := h
  cases ty with
  | x ty => exact call_isi pins s σ H _ us Q I r ⟨v, c, t, u, b, rfl, k, ty, e, q⟩
  | @dic a rd =>
    obtain ⟨u1, u2, rfl, r1, r2⟩ := vals2 r
    cases k.eq r2
    cases (show u1 = Value.ref a from r1)
    have kx : ∃ P : Heap → Prop, PySem.W.KitX X.K (.ref a) (.type "dict") P ∧ P s.heap := by
      rcases rd with rd | rd
      · obtain ⟨_, _, vs, _, o, es, ep, h1, h2, _⟩ := dk_rd I.hok rd
        exact ⟨_, PySem.W.kitx_dict, ⟨o, h1, h2.1⟩⟩
      · obtain ⟨_, _, vs, _, o, es, ep, h1, h2, _⟩ := dt_rd I.hok rd
        exact ⟨_, PySem.W.kitx_dict, ⟨o, h1, h2.1⟩⟩
    obtain ⟨P, Z, p⟩ := kx
    exact PySem.W.kia_one Z I.kIn p e (fun z => nomatch z) fun tk => ⟨.bl b, H, I.tok tk, rfl, q⟩
/-- a def that may raise, promised where it doesn't -/
theorem fnG_quiet {P : Program} {w : World} {K : PySem.W.Frag} {mg : Str → Option Value} {base : Heap} {k : Nat} {f : Addr} {fd : FuncData} {ps : List Str} {sp : Sp} (F : FnG P w K mg base (L2.CX P w) k f fd ps sp) : FnG P w K mg base CX0 k f fd ps (fun vs H Q _ => sp vs H Q fun _ _ _ => False) := by
  refine ⟨fun vs H Q _ h => F.many _ _ _ _ h, fun Ar out st H as us vs Q E g hr e0 hb r h => codeAny_mono (F.runs Ar out st H as us vs Q _ g hr e0 hb r h) fun res s' hq => ?_⟩
  rcases res with e | fl
  · obtain ⟨_, _, _, _, _, _, _, _, _, _, _, _, z⟩ := hq
    exact z.elim
  · cases fl <;> exact hq
end Br
namespace Dl
open PySem PySem.Spec PyProof.Rows L2 Br
def F_lookN (ok : D → Prop) : Fs := fun cs k => ∃ d, cs = [.fro d] ∧ ok d ∧ k .none []
theorem fnD_lookN {P : Program} {w : World} {K : PySem.W.Frag} {mg : Str → Option Value} {base : Heap} {k : Nat} {f : Addr} {fd : FuncData} {ok : D → Prop} {x : Str} {sp : Sp} (F : FnG P w K mg base CX0 k f fd [x] sp)
    (wk : ∀ (v : V) (d : D) (H : Hp) (Q : VK) (E : XK), Rp K H v d → ok d → (∀ H', Same H H' → Q .non H') → sp [v] H Q E) : FnD P w K mg base k f fd [x] 0 (F_lookN ok) := by
  refine ⟨fnG_weak F fun vs H Q E ⟨hl, G, cs, R, d, hcs, od, q⟩ => ?_, fun cs k k' w ⟨d, h1, h2, h3⟩ => ⟨d, h1, h2, w _ _ h3⟩, fun cs k ⟨d, h1, _⟩ => by rw [h1]; rfl, Nat.zero_le _⟩
  subst hcs
  match vs, hl with
  | [v], _ =>
    obtain ⟨v', e, r⟩ := R.fro 0 d rfl
    cases e
    refine wk v d H Q E (rp_same R.gh r) od fun H' s => q _ G H' (R.gh.trans s) ⟨R.gh.trans s, rfl, fun i d e => ?_, fun i d e => ?_, fun i j p d c e => ?_⟩ ⟨Same.refl _, fun a o _ e => s a o e, fun _ _ _ _ g _ => g, fun a e => ?_⟩ .non
    · cases e
    · cases e
    · cases e
    · cases z : H a with
      | none => rfl
      | some o => rw [s a o z] at e; cases e
/-- an empty dict, read -/
theorem rp_dict0 {K : PySem.W.Frag} {G : Hp} {v : V} (r : Rp K G v (.dict [])) : ∃ a, v = .ref a ∧ (Rd G a (.dK []) ∨ Rd G a (.dT [])) := by
  generalize e : D.dict [] = d at r
  cases r <;> first | cases e; done | skip
  · rename_i a ks xs ds q l ra
    have e1 := D.dict.inj e
    have l2 := rps_len ra
    cases ks with
    | nil => exact ⟨a, rfl, .inl q⟩
    | cons k ks =>
      cases ds with
      | nil => rw [List.length_nil] at l2; rw [l2] at l; cases l
      | cons d ds => cases e1
  · rename_i a ks xs ds q l ra
    have e1 := D.dict.inj e
    have l2 := rps_len ra
    cases ks with
    | nil => exact ⟨a, rfl, .inr q⟩
    | cons k ks =>
      cases ds with
      | nil => rw [List.length_nil] at l2; rw [l2] at l; cases l
      | cons d ds => cases e1
end Dl

set_option Elab.async false
set_option linter.all false
set_option maxRecDepth 100000
set_option maxHeartbeats 4000000
/-! texts written and read: f-strings, x or y of texts, str(x), int(text), partition, split(sep, n), all, list * int,
defs handed over and called, written dicts of defs, zip in for. -/
namespace Dl
open PySem PySem.Spec PyProof.Rows L2 Br
section
variable {K : PySem.W.Frag} {X : Cx} {a b : Expr} {ma mb : ME} {pos p : Pos}
/-! ### f-strings -/
def mFmt (m : ME) : ME := fun ρ k => m ρ fun d ρ1 => match d with
  | .str y => y.length ≤ sizeLine ∧ k (.str y) ρ1
  | .int i => i.natAbs.log2 < 1920 ∧ k (.str (toString i)) ρ1
  | _ => False
theorem se_fmt (ha : SE K (fE K) X a ma) : SE K (fE K) X (.FormattedValue a (-1) none pos) (mFmt ma) := by
  refine ⟨fun ρ k k' w => ha.mono ρ _ _ fun d ρ1 q => ?_, pe_weak (pe_fmt ha.pe) fun σ H Q ⟨G, ρ, R, q⟩ => ⟨G, ρ, R, ha.mono ρ _ _ (fun d ρ1 q x G1 H1 R1 l1 rx => ?_) q⟩⟩
  · cases d <;> first | exact q.elim | exact ⟨q.1, w _ _ q.2⟩
  · cases d <;> first | exact q.elim | skip
    · cases rx
      exact .inr ⟨_, rfl, q.1, q.2 _ G1 H1 R1 l1 (.str _)⟩
    · cases rx
      exact .inl ⟨_, rfl, q.1, q.2 _ G1 H1 R1 l1 (.str _)⟩
abbrev MJ := Str → Cs → (Str → Cs → Prop) → Prop
def jNil : MJ := fun acc ρ k => k acc ρ
def jCons (m : ME) (j : MJ) : MJ := fun acc ρ k => m ρ fun d ρ1 => match d with
  | .str y => (acc ++ y).length ≤ sizeLine ∧ j (acc ++ y) ρ1 k
  | _ => False
structure SJ (K : PySem.W.Frag) (X : Cx) (es : List Expr) (j : MJ) : Prop where
  mono : ∀ acc ρ (k k' : Str → Cs → Prop), (∀ d ρ', k d ρ' → k' d ρ') → j acc ρ k → j acc ρ k'
  run : ∃ ts, PJ X es ts ∧ ∀ (acc : Str) (σ : L2.St) (G H : Hp) (ρ : Cs) (Q : Str → Hp → Prop), Rel K σ G H ρ → j acc ρ (fun out ρ' => ∀ G' H', Rel K σ G' H' ρ' → Lk 0 σ G H ρ σ G' H' ρ' → Q out H') → tJs ts acc σ H Q
theorem sj_nil : SJ K X [] jNil := ⟨fun acc ρ k k' w => w _ _, [], .nil, fun acc σ G H ρ Q R q => q G H R .refl⟩
theorem sj_cons {es : List Expr} {j : MJ} (ha : SE K (fE K) X a ma) (hj : SJ K X es j) : SJ K X (a :: es) (jCons ma j) := by
  obtain ⟨mo, ts, pj, run⟩ := hj
  refine ⟨fun acc ρ k k' w => ha.mono ρ _ _ fun d ρ1 q => ?_, tE K (fE K) ma :: ts, .cons ha.pe pj, fun acc σ G H ρ Q R q => ?_⟩
  · cases d <;> first | exact q.elim | exact ⟨q.1, mo _ _ _ _ w q.2⟩
  · refine ⟨G, ρ, R, ha.mono ρ _ _ (fun d ρ1 q x G1 H1 R1 l1 rx => ?_) q⟩
    cases d <;> first | exact q.elim | skip
    cases rx
    exact ⟨_, rfl, q.1, run _ σ G1 H1 ρ1 Q R1 (mo _ _ _ _ (fun out ρ2 q G2 H2 R2 l2 => q G2 H2 R2 (l1.trans l2)) q.2)⟩
def mJoined (j : MJ) : ME := fun ρ k => j Str.empty ρ fun out ρ1 => k (.str out) ρ1
theorem se_joined {es : List Expr} {j : MJ} (h : SJ K X (a :: b :: es) j) : SE K (fE K) X (.JoinedStr (a :: b :: es) pos) (mJoined j) := by
  obtain ⟨mo, ts, pj, run⟩ := h
  refine ⟨fun ρ k k' w => mo _ ρ _ _ fun d ρ1 => w _ _, pe_weak (pe_joined pj) fun σ H Q ⟨G, ρ, R, q⟩ => ?_⟩
  exact run _ σ G H ρ _ R (mo _ _ _ _ (fun out ρ1 q G1 H1 R1 l1 => q _ G1 H1 R1 l1 (.str _)) q)
theorem se_joined1 (h : SE K (fE K) X a ma) : SE K (fE K) X (.JoinedStr [a] pos) ma := ⟨h.mono, pe_joined1 h.pe⟩
/-! ### x or y, of texts -/
def mOrS (ma mb : ME) : ME := fun ρ k => ma ρ fun d ρ1 => match d with
  | .str y => y.length ≤ sizeLine ∧ if y.length = 0 then mb ρ1 k else k (.str y) ρ1
  | _ => False
theorem se_orS {rest : List Expr} (hK : X.K = K) (h : SE K (fE K) X a ma) (g : SE K (fE K) X (.BoolOp .Or (b :: rest) pos) mb) : SE K (fE K) X (.BoolOp .Or (a :: b :: rest) pos) (mOrS ma mb) := by
  subst hK
  refine ⟨fun ρ k k' w => h.mono ρ _ _ fun d ρ1 q => ?_, pe_weak (pe_orT h.pe g.pe) fun σ H Q ⟨G, ρ, R, q⟩ => ⟨G, ρ, R, h.mono ρ _ _ (fun d ρ1 q x G1 H1 R1 l1 rx => ?_) q⟩⟩
  · cases d <;> first | exact q.elim | skip
    refine ⟨q.1, ?_⟩
    have q := q.2
    split
    · rename_i e
      rw [if_pos e] at q
      exact g.mono ρ1 _ _ w q
    · rename_i e
      rw [if_neg e] at q
      exact w _ _ q
  · cases d <;> first | exact q.elim | skip
    rename_i y
    cases rx
    refine ⟨_, ⟨q.1, rfl⟩, ?_⟩
    have q := q.2
    by_cases e : y.length = 0
    · rw [if_pos e] at q
      have e2 : ((y.length : Int) != 0) = false := by rw [e]; rfl
      rw [e2]
      exact ⟨G1, ρ1, R1, g.mono ρ1 _ _ (fun d ρ2 q v G2 H2 R2 l2 => q v G2 H2 R2 (l1.trans l2)) q⟩
    · rw [if_neg e] at q
      have e2 : ((y.length : Int) != 0) = true := bne_iff_ne.mpr (by omega)
      rw [e2]
      exact q _ G1 H1 R1 l1 (.str _)
/-! ### str(x), int(text), all -/
def oStrOf : O1 := fun d k => match d with
  | .str y => k (.str y)
  | .int i => i.natAbs.log2 < 1920 ∧ k (.str (toString i))
  | _ => False
theorem mo_strOf : Mo1 oStrOf := fun a k k' w h => by cases a <;> first | exact h.elim | exact w _ h | exact ⟨h.1, w _ h.2⟩
theorem callr_strOf : CallR X (.type "str") (fun xs H Q => ∃ x, xs = [x] ∧ rO1 X.K (pE X.K) oStrOf x H Q) := by
  intro pins s σ H xs us Q I r h
  obtain ⟨x, rfl, G, d, g, hx, q⟩ := h
  cases d <;> first | exact q.elim | skip
  · cases vw_int hx
    exact call_str_int pins s σ H _ us Q I r ⟨_, rfl, q.1, stay g q.2 (.str _)⟩
  · cases vw_str hx
    exact SkE.call_str_str pins s σ H _ us Q I r ⟨_, rfl, stay g q (.str _)⟩
theorem se_str_of (hK : X.K = K) (hg : Gl X "str") (hm : X.mg "str" = none) (ha : SE K (fV K) X a ma) (hs : starEach [a] X.env = [(false, eval a X.env)] := by rfl) (hpl : (backTo pos (starEach [] X.env)).any (·.1) = false := by rfl) :
    SE K (fE K) X (.Call (.Name "str" p) [a] [] pos) (mUn oStrOf ma) := by
  subst hK
  exact se_t1 callr_strOf (fun y H Q h => ⟨y, rfl, h⟩) mo_strOf embE hg hm (by decide +kernel) ha hs (by decide) (by decide) hpl
def oIntS : O1 := fun d k => match d with
  | .str y => ∃ n : Int, PySem.intText? y = some n ∧ y.length ≤ 640 ∧ k (.int n)
  | _ => False
theorem mo_intS : Mo1 oIntS := fun a k k' w h => by cases a <;> first | exact h.elim | skip; obtain ⟨n, h1, h2, h3⟩ := h; exact ⟨n, h1, h2, w _ h3⟩
theorem callr_intS : CallR X (.type "int") (fun xs H Q => ∃ x, xs = [x] ∧ rO1 X.K (pE X.K) oIntS x H Q) := by
  intro pins s σ H xs us Q I r h
  obtain ⟨x, rfl, G, d, g, hx, q⟩ := h
  cases d <;> first | exact q.elim | skip
  obtain ⟨n, h1, h2, q⟩ := q
  cases vw_str hx
  exact call_int_str pins s σ H _ us Q I r ⟨_, n, rfl, h1, h2, stay g q (.int _)⟩
theorem se_int_str (hK : X.K = K) (hg : Gl X "int") (hm : X.mg "int" = none) (ha : SE K (fV K) X a ma) (hs : starEach [a] X.env = [(false, eval a X.env)] := by rfl) (hpl : (backTo pos (starEach [] X.env)).any (·.1) = false := by rfl) :
    SE K (fE K) X (.Call (.Name "int" p) [a] [] pos) (mUn oIntS ma) := by
  subst hK
  exact se_t1 callr_intS (fun y H Q h => ⟨y, rfl, h⟩) mo_intS embE hg hm (by decide +kernel) ha hs (by decide) (by decide) hpl
def boolsOf : List D → Option (List Bool)
  | [] => some []
  | .bool b :: r => (boolsOf r).map (b :: ·)
  | _ => none
theorem bools_V {G : Hp} : ∀ {xs : List V} {ds : List D} {ys : List Bool}, RpAll K G xs ds → boolsOf ds = some ys → xs = ys.map V.bl
  | _, _, _, .nil, h => by cases h; rfl
  | _, _, _, .cons (d := d) r rs, h => by
    cases d <;> first | cases h; done | skip
    cases r
    obtain ⟨zs, h1, h2⟩ := Option.map_eq_some_iff.mp h
    subst h2
    rw [bools_V rs h1]; rfl
def oAll : O1 := fun d k => match d with
  | .list ds => match boolsOf ds with
    | some bs => k (.bool (bs.all id))
    | none => False
  | _ => False
theorem mo_all : Mo1 oAll := fun a k k' w h => by
  cases a <;> first | exact h.elim | skip
  unfold oAll at h ⊢
  dsimp only at h ⊢
  split at h
  · exact w _ h
  · exact h.elim
theorem callr_all (hc : X.calm = true) : CallR X (.builtin "all") (fun xs H Q => ∃ x, xs = [x] ∧ rO1 X.K (pE X.K) oAll x H Q) := by
  intro pins s σ H xs us Q I r h
  obtain ⟨x, rfl, G, d, g, hx, q⟩ := h
  cases d <;> first | exact q.elim | skip
  unfold oAll at q
  dsimp only at q
  split at q
  · rename_i ds bs e
    obtain ⟨l, vs, rfl, rd, ra⟩ := vw_list g hx
    rw [bools_V ra e] at rd
    exact cr_all hc pins s σ H _ us Q I r ⟨l, bs, rfl, .inl rd, stay g q (.bl _)⟩
  · exact q.elim
theorem se_all (hK : X.K = K) (hc : X.calm = true) (hg : Gl X "all") (hm : X.mg "all" = none) (ha : SE K (fV K) X a ma) (hs : starEach [a] X.env = [(false, eval a X.env)] := by rfl) (hpl : (backTo pos (starEach [] X.env)).any (·.1) = false := by rfl) :
    SE K (fE K) X (.Call (.Name "all" p) [a] [] pos) (mUn oAll ma) := by
  subst hK
  exact se_b1 (id := "all") (callr_all hc) (fun y H Q h => ⟨y, rfl, h⟩) mo_all embE hg hm (by decide +kernel) ha hs (by decide) (by decide) hpl
/-! ### methods of texts -/
def mAsk (f : Str → Bool) (ma : ME) : ME := fun ρ k => ma ρ fun da ρ1 => match da with
  | .str x => k (.bool (f x)) ρ1
  | _ => False
theorem se_ask {id : String} {name : Str} {f : Str → Bool} {ap : Pos} (slot : Slot "str" name id) (ty : typeOf (.builtin id) = pure (.type "method_descriptor")) (rule : MtR X id (fun x xs H Q => ∃ a, x = .str a ∧ xs = [] ∧ True ∧ Q (.bl (f a)) H))
    (ha : SE K (fE K) X a ma) (hbase : attributeBase a name X.env (eval a X.env) = eval a X.env := by rfl) (hline : (ap.endLine == pos.line) = true := by rfl) : SE K (fE K) X (.Call (.Attribute a name ap) [] [] pos) (mAsk f ma) := by
  refine ⟨fun ρ k k' w => ha.mono ρ _ _ fun d ρ1 q => ?_, pe_weak (pe_m0 slot ty rule ha.pe hbase hline) fun σ H Q ⟨G, ρ, R, q⟩ => ⟨G, ρ, R, ha.mono ρ _ _ (fun d ρ1 q x G1 H1 R1 l1 rx => ?_) q⟩⟩
  · cases d <;> first | exact q.elim | exact w _ _ q
  · cases d <;> first | exact q.elim | skip
    cases rx
    exact ⟨⟨_, rfl⟩, _, rfl, rfl, trivial, q _ G1 H1 R1 l1 (.bl _)⟩
def mPart (ma mb : ME) : ME := fun ρ k => ma ρ fun da ρ1 => match da with
  | .str x => mb ρ1 fun db ρ2 => match db with
    | .str y => (y.length == 0) = false ∧ x.length ≤ sizeLine ∧ k (.tuple .mad [.str (Txt.partition x y).1, .str (Txt.partition x y).2.1, .str (Txt.partition x y).2.2]) ρ2
    | _ => False
  | _ => False
theorem se_partition {ap : Pos} (ha : SE K (fE K) X a ma) (hb : SE K (fE K) X b mb) (hs : starEach [b] X.env = [(false, eval b X.env)] := by rfl) (hbase : attributeBase a "partition" X.env (eval a X.env) = eval a X.env := by rfl) (hline : (ap.endLine == pos.line) = true := by rfl) :
    SE K (fE K) X (.Call (.Attribute a "partition" ap) [b] [] pos) (mPart ma mb) := by
  constructor
  · intro ρ k k' w
    refine ha.mono ρ _ _ fun da ρ1 q => ?_
    cases da <;> first | exact q.elim | skip
    refine hb.mono ρ1 _ _ (fun db ρ2 q => ?_) q
    cases db <;> first | exact q.elim | exact ⟨q.1, q.2.1, w _ _ q.2.2⟩
  · refine pe_weak (pe_partition ha.pe hb.pe hs hbase hline) fun σ H Q ⟨G, ρ, R, q⟩ => ⟨G, ρ, R, ha.mono ρ _ _ (fun da ρ1 q x G1 H1 R1 l1 rx => ?_) q⟩
    cases da <;> first | exact q.elim | skip
    rename_i sx
    cases rx
    refine ⟨⟨_, rfl⟩, G1, ρ1, R1, hb.mono ρ1 _ _ (fun db ρ2 q y G2 H2 R2 l2 ry => ?_) q⟩
    cases db <;> first | exact q.elim | skip
    rename_i sy
    cases ry
    refine ⟨_, _, rfl, rfl, q.1, q.2.1, fun p np => ?_⟩
    have st := stp_newG (o := .tup [.str (Txt.partition sx sy).1, .str (Txt.partition sx sy).2.1, .str (Txt.partition sx sy).2.2]) R2.gh np
    exact q.2.2 _ _ _ (R2.pure st (same_new2 R2.gh np)) ((l1.trans l2).trans (.pure st)) (.tup upd_same (.cons (.str _) (.cons (.str _) (.cons (.str _) .nil))))
/-- s.split(sep, n) -/
def mSplitM (ma mb mc : ME) : ME := fun ρ k => ma ρ fun da ρ1 => match da with
  | .str x => mb ρ1 fun db ρ2 => match db with
    | .str y => mc ρ2 fun dc ρ3 => match dc with
      | .int n => (y.length == 0) = false ∧ 0 ≤ n ∧ n ≤ 1000 ∧ x.length + 2 ≤ sizeLine ∧ k (.list ((Txt.splitMax x y n).map .str)) ρ3
      | _ => False
    | _ => False
  | _ => False
theorem pe_m2 {e1 e2 : Expr} {to : TE} {ta : TA} {id : String} {name : Str} {apos pos : Pos} {r : V → List V → Hp → VK → Prop} (slot : Slot "str" name id) (ty : typeOf (.builtin id) = pure (.type "method_descriptor")) (rule : MtR X id r) (ho : PE X a to) (he : PA X [e1, e2] ta)
    (hs : starEach [e1, e2] X.env = [(false, eval e1 X.env), (false, eval e2 X.env)] := by rfl) (hbase : attributeBase a name X.env (eval a X.env) = eval a X.env := by rfl) (hline : (apos.endLine == pos.line) = true := by rfl) :
    PE X (.Call (.Attribute a name apos) [e1, e2] [] pos) (fun σ H Q => to σ H fun x H1 => (∃ a, x = .str a) ∧ ta σ H1 fun ys H2 => r x ys H2 Q) := by
  refine ⟨fun pins s σ H Q I h => ?_⟩
  refine PySem.Call_method2 hbase hs hline (thn (ho.run pins s σ H _ I h) fun v s1 ⟨x, H1, I1, r1, q1⟩ => ?_)
  obtain ⟨⟨a, rfl⟩, q1⟩ := q1
  obtain ⟨t, rfl⟩ := _root_.id r1
  refine ⟨"str", _, F.plainAttrs_str, slot, ty, typeIs_str _ _ _, (fun _ e => nomatch e), Calls.callWith_builtin rfl (Calls.evalArgs_plain ?_)⟩
  have e0 : backTo pos (starEach [e1, e2] X.env) = backTo pos [(false, eval e1 X.env), (false, eval e2 X.env)] := by rw [hs]
  have run := he.run pos pins s1 σ H1 _ I1 q1
  rw [e0] at run
  exact thn run fun us s2 ⟨ys, H2, I2, r2, q2⟩ => rule pins s2 σ H2 _ ys _ us Q I2 r1 r2 q2
theorem se_splitM {c : Expr} {mc : ME} {ap : Pos} (ha : SE K (fE K) X a ma) (hb : SE K (fE K) X b mb) (hc : SE K (fE K) X c mc) (hs : starEach [b, c] X.env = [(false, eval b X.env), (false, eval c X.env)] := by rfl) (hs2 : starEach [c] X.env = [(false, eval c X.env)] := by rfl)
    (hbase : attributeBase a "split" X.env (eval a X.env) = eval a X.env := by rfl) (hline : (ap.endLine == pos.line) = true := by rfl) :
    SE K (fF K) X (.Call (.Attribute a "split" ap) [b, c] [] pos) (mSplitM ma mb mc) := by
  constructor
  · intro ρ k k' w
    refine ha.mono ρ _ _ fun da ρ1 q => ?_
    cases da <;> first | exact q.elim | skip
    refine hb.mono ρ1 _ _ (fun db ρ2 q => ?_) q
    cases db <;> first | exact q.elim | skip
    refine hc.mono ρ2 _ _ (fun dc ρ3 q => ?_) q
    cases dc <;> first | exact q.elim | exact ⟨q.1, q.2.1, q.2.2.1, q.2.2.2.1, w _ _ q.2.2.2.2⟩
  · refine pe_weak (pe_m2 PySem.F.slot_str_split PySem.F.type_str_split mt_splitMax ha.pe (pa_cons hb.pe (pa_cons hc.pe pa_nil hs2) (by rw [hs, hs2])) hs hbase hline) fun σ H Q ⟨G, ρ, R, q⟩ => ⟨G, ρ, R, ha.mono ρ _ _ (fun da ρ1 q x G1 H1 R1 l1 rx => ?_) q⟩
    cases da <;> first | exact q.elim | skip
    rename_i sx
    cases rx
    refine ⟨⟨_, rfl⟩, G1, ρ1, R1, hb.mono ρ1 _ _ (fun db ρ2 q y G2 H2 R2 l2 ry => ?_) q⟩
    cases db <;> first | exact q.elim | skip
    rename_i sy
    cases ry
    refine ⟨G2, ρ2, R2, hc.mono ρ2 _ _ (fun dc ρ3 q z G3 H3 R3 l3 rz => ?_) q⟩
    cases dc <;> first | exact q.elim | skip
    rename_i n
    cases rz
    refine ⟨_, _, _, rfl, rfl, q.1, by have := q.2.1; omega, by have := q.2.2.1; omega, q.2.2.2.1, fun p np => ?_⟩
    have st := stp_new (G := G3) (o := .lst ((Txt.splitMax sx sy n).map V.str)) np
    have l := (l1.trans l2).trans l3
    exact q.2.2.2.2 _ G3 _ (R3.pure st (same_new1 R3.gh np)) (l.trans (.pure st)) ⟨p, _, rfl, l.st.dom p np, fun w => R3.old w np, upd_same, R3.gh.free np, .lst (rps_strs _)⟩
/-! ### list * int -/
def mMulL (ma mb : ME) : ME := fun ρ k => ma ρ fun da ρ1 => mb ρ1 fun db ρ2 => match da, db with
  | .list xs, .int n => 0 ≤ n ∧ n ≤ 1000 ∧ xs.length ≤ 1000 ∧ k (.list (List.replicate n.toNat xs).flatten) ρ2
  | _, _ => False
theorem se_mulL (ha : SE K (fF K) X a ma) (hb : SE K (fE K) X b mb) : SE K (fF K) X (.BinOp a .Mult b pos) (mMulL ma mb) := by
  refine ⟨fun ρ k k' w => ha.mono ρ _ _ fun da ρ1 q => hb.mono ρ1 _ _ (fun db ρ2 q => ?_) q, pe_weak (pe_op op_rep ha.pe hb.pe) fun σ H Q ⟨G, ρ, R, q⟩ => ⟨G, ρ, R, ha.mono ρ _ _ (fun da ρ1 q x G1 H1 R1 l1 rx => ⟨G1, ρ1, R1, hb.mono ρ1 _ _ (fun db ρ2 q y G2 H2 R2 l2 ry => ?_) q⟩) q⟩⟩
  · cases da <;> cases db <;> first | exact q.elim | exact ⟨q.1, q.2.1, q.2.2.1, w _ _ q.2.2.2⟩
  · cases da <;> cases db <;> first | exact q.elim | skip
    rename_i ds _ n
    cases ry
    obtain ⟨p, o, rfl, h0, nw, hp, gp, ob⟩ := rx
    cases ob with
    | @lst vs _ ra =>
      obtain ⟨n0, n1, few, q⟩ := q
      have hp2 := l2.st.hh p _ (nw) hp
      have r2 := rps_same l2.st.gg ra
      refine ⟨p, n, vs, rfl, rfl, hp2, by omega, by omega, ?_, fun p' np => ?_⟩
      · rw [rps_len ra, sizeLine_eq]
        have h1 : n.toNat ≤ 1000 := by omega
        have h2 : ds.length * n.toNat ≤ 1000 * 1000 := Nat.mul_le_mul few h1
        omega
      · have l := l1.trans l2
        have st := stp_new (G := G2) (o := .lst (List.replicate n.toNat vs).flatten) np
        exact q _ G2 _ (R2.pure st (same_new1 R2.gh np)) (l.trans (.pure st)) ⟨p', _, rfl, l.st.dom p' np, fun w => R2.old w np, upd_same, R2.gh.free np, .lst (rps_rep r2 _)⟩
/-! ### defs handed over -/
/-- of a table of defs: each is there, with its promise -/
def Table (P : Program) (w : World) (K : PySem.W.Frag) (mg : Str → Option Value) (base : Heap) (k : Nat) (S : Str → Option Fs) : Prop :=
  ∀ x F, S x = some F → ∃ (f : Addr) (j : Nat) (fd : FuncData) (ps : List Str), PySem.W.nsIn K mainGlobals x = some (some (.ref f)) ∧ j ≤ k ∧ FnD P w K mg base j f fd ps 0 F ∧ PySem.W.keepIn K (.ref f) = true ∧ Binds K fd ps []
def mCallV (i : Nat) (S : Str → Option Fs) (ma : MA) : ME := fun ρ k => ∃ x F, ρ[i]? = some (.fro (.fn x)) ∧ S x = some F ∧ ma ρ fun ds ρ1 => F (ds.map .fro) fun d _ => k d ρ1
theorem se_callV {i : Nat} {S : Str → Option Fs} {k : Nat} {x : Str} {es : List Expr} {m : MA} (tb : Table X.prog X.w K X.mg X.base k S) (hK : X.K = K) (hG : Bare X.A) (hr : Room k X.A) (hN : X.N[i]? = some x) (hv : Vis X.env.scope x) (ha : SA K X (a :: es) m)
    (hdb : (x == ("__debug__" : Str)) = false := by decide) (hcd : (x == ("__classdict__" : Str)) = false := by decide)
    (he : starEach (a :: es) X.env = (false, eval a X.env) :: starEach es X.env := by rfl) (hpl : (backTo pos (starEach es X.env)).any (·.1) = false := by rfl) : SE K (fE K) X (.Call (.Name x p) (a :: es) [] pos) (mCallV i S m) := by
  subst hK
  refine ⟨fun ρ k' k'' w ⟨y, F, h1, h2, q⟩ => ?_, ⟨fun pins s σ H Q I ⟨G, ρ, R, y, F, h1, h2, q⟩ => ?_⟩⟩
  · obtain ⟨f, j, fd, ps, _, _, Fn, _⟩ := tb y F h2
    exact ⟨y, F, h1, h2, ha.mono ρ _ _ (fun ds ρ1 => Fn.mo _ _ _ fun d _ => w _ _) q⟩
  · obtain ⟨f, j, fd, ps, hns, hj, Fn, hk, hb⟩ := tb y F h2
    obtain ⟨v, hs, rv⟩ := R.fro i _ h1
    cases rv with
    | fn e =>
    rename_i f'
    have ef : f' = f := by
      rw [hns] at e
      cases e
      rfl
    subst ef
    refine wpAny_Call_Name_kw (thn ((pe_var (pos := p) hN hv hdb hcd).run pins s σ H (fun v H1 => v = .ref f' ∧ H1 = H) I ⟨.ref f', hs, rfl, rfl⟩) fun u s1 ⟨v, H1, I1, r1, q1⟩ => ?_)
    obtain ⟨rfl, rfl⟩ := q1
    cases r1
    have ht : tA X.K m σ H1 (fun vs H2 => ∃ G2 ds ρ2, Rel X.K σ G2 H2 ρ2 ∧ Lk 0 σ G H1 ρ σ G2 H2 ρ2 ∧ RpAll X.K G2 vs ds ∧ F (ds.map .fro) fun d _ => ∀ v G' H', Rel X.K σ G' H' ρ2 → Lk 0 σ G H1 ρ σ G' H' ρ2 → Rp X.K G' v d → Q v H') :=
      ⟨G, ρ, R, ha.mono ρ _ _ (fun ds ρ1 q vs G2 H2 R2 l2 rs => ⟨G2, ds, ρ1, R2, l2, rs, q⟩) q⟩
    refine PySem.W.callWith_K (h₀ := X.base) I.ok.mod.kin hk (thn (ha.pa.run pos pins s1 σ H1 _ I1 ht) fun us s2 ⟨vs, H2, I2, r, G2, ds, ρ2, R2, l2, rs, q⟩ => ⟨I2.kIn, ?_⟩) he hpl
    have hl : us.length = ps.length := by
      have := Fn.ln _ _ q
      rw [List.length_map] at this
      rw [← r.length, rps_len rs, this]
    have hl2 : (us ++ ([] : List Value)).length = ps.length := by rw [List.append_nil]; exact hl
    refine run_g (ws := us ++ []) Fn.ok hG (hr.mono hj) (E := fun _ _ _ => False) pass0 I2 (hb s2 us I2.kIn hl2) (by rw [List.append_nil]; exact r) ?_
    refine ⟨?_, G2, ds.map .fro, rel_fro R2.gh rs, Fn.mo _ _ _ (fun d _ q v G' H' gh R' st rv => ?_) q⟩
    · rw [r.length, hl]
    · have sp : Stp Pure G2 H2 G' H' := st.weak fun a w => by
        have e0 : vs.map some = vs.map some ++ [] := (List.append_nil _).symm
        have e1 : ds.map Cell.fro = ds.map Cell.fro ++ [] := (List.append_nil _).symm
        rw [e0, e1] at w
        exact absurd w (ow_fro fun i d z => by cases z)
      exact q v G' H' (R2.pure sp gh) (l2.trans (Lk.pure sp)) rv
/-- a def of the module as a value -/
theorem se_fn {x : Str} {f : Addr} (hg : Gl X x) (hm : X.mg x = some (.ref f)) (hn : PySem.W.nsIn K mainGlobals x = some (some (.ref f))) (hd : (x == ("__debug__" : Str)) = false := by decide) : SE K (fE K) X (.Name x p) (mC (.fn x)) :=
  se_glob (v := .ref f) hg hm rfl (fun _ => .fn hn) hd
/-- D[k], D a written dict of defs -/
def mTab (t : Str → Option Str) (mb : ME) : ME := fun ρ k => mb ρ fun d ρ1 => match d with
  | .str z => ∃ n, t z = some n ∧ k (.fn n) ρ1
  | _ => False
theorem se_tab {t : Str → Option Str} {x : Str} {ad : Addr} (hK : X.K = K) (hg : Gl X x) (hm : X.mg x = some (.ref ad)) (ht : ∀ z n, t z = some n → ∃ f, KDct K X.w ad z (.ref f) ∧ PySem.W.nsIn K mainGlobals n = some (some (.ref f)))
    (hb : SE K (fE K) X b mb) (hs : PlainIx b) (hd : (x == ("__debug__" : Str)) = false := by decide) : SE K (fE K) X (.Subscript (.Name x p) b pos) (mTab t mb) := by
  subst hK
  refine ⟨fun ρ k k' w => hb.mono ρ _ _ fun d ρ1 q => ?_, pe_weak (pe_ix ix_kdict (pe_glob (v := .ref ad) hg hm rfl hd) hb.pe hs) fun σ H Q ⟨G, ρ, R, q⟩ => ?_⟩
  · cases d <;> first | exact q.elim | exact q.imp fun n h => ⟨h.1, w _ _ h.2⟩
  · refine ⟨G, ρ, R, hb.mono ρ _ _ (fun d ρ1 q y G1 H1 R1 l1 ry => ?_) q⟩
    cases d <;> first | exact q.elim | skip
    cases ry
    obtain ⟨n, e, q⟩ := q
    obtain ⟨f, kd, hn⟩ := ht _ _ e
    exact ⟨_, _, _, rfl, rfl, kd, q _ G1 H1 R1 l1 (.fn hn)⟩
/-- f() -/
def mCall0 (F : Fs) : ME := fun ρ k => F [] fun d _ => k d ρ
theorem se_call0 {F : Fs} {n k j : Nat} {f : Addr} {fd : FuncData} {x : Str} (Fn : FnD X.prog X.w K X.mg X.base j f fd [] n F) (hK : X.K = K) (hG : Bare X.A) (hr : Room k X.A) (hj : j ≤ k) (hg : Gl X x) (hm : X.mg x = some (.ref f)) (hk : PySem.W.keepIn K (.ref f) = true) (hb : Binds K fd [] [])
    (hdb : (x == ("__debug__" : Str)) = false := by decide) : SE K (fE K) X (.Call (.Name x p) [] [] pos) (mCall0 F) := by
  subst hK
  refine ⟨fun ρ k k' w => Fn.mo _ _ _ fun d _ => w _ _, ⟨fun pins s σ H Q I ⟨G, ρ, R, q⟩ => ?_⟩⟩
  refine wpAny_Call_Name_kw (ld_glob I hg hm ?_ hdb)
  refine PySem.W.callWith_K0 I.kIn hk ?_
  refine run_g (ws := []) Fn.ok hG (hr.mono hj) (E := fun _ _ _ => False) pass0 I (hb s [] I.kIn rfl) .nil ?_
  refine ⟨rfl, G, [], rel_fro R.gh .nil, Fn.mo _ _ _ (fun d _ q v G' H' gh R' st rv => ?_) q⟩
  have sp : Stp Pure G H G' H' := st.weak fun a w => absurd w (ow_fro (vs := []) (ds := []) (more := []) (un := []) fun i d z => by cases z)
  exact q v G' H' (R.pure sp gh) (Lk.pure sp) rv
/-! ### zip, enumerate -/
def mZip (ma : MA) : MI := fun ρ k => ma ρ fun ds ρ1 => match ds with
  | [.list xs, .list ys] => k ((xs.zip ys).map fun z => .tuple .mad [z.1, z.2]) ρ1
  | _ => False
theorem wk_zip {G : Hp} {a b : Addr} {xs ys : List V} {ds es : List D} (ha : Rd G a (.lst xs)) (hb : Rd G b (.lst ys)) (ra : RpAll K G xs ds) (rb : RpAll K G ys es) : Wk K (Itz K a b) G ((ds.zip es).map fun z => D.tuple .mad [z.1, z.2]) := by
  intro G' H' g gh
  have W := walk_zip (K := K) (a := a) (b := b) (xs := xs) (ys := ys) rfl
  have ln : ((ds.zip es).map fun z => D.tuple Tk.mad [z.1, z.2]).length = min xs.length ys.length := by rw [List.length_map, List.length_zip, rps_len ra, rps_len rb]
  have sq : SqL K H' a xs ∧ SqL K H' b ys := ⟨.inl (rd_same gh (rd_same g ha)), .inl (rd_same gh (rd_same g hb))⟩
  refine ⟨fun i hi => W.goes i H' (by omega) sq, by rw [ln]; exact W.stops H' sq, fun i x H3 hi y => ?_⟩
  obtain ⟨T, u, v, rfl, nT, rfl, h4, h5⟩ := W.yields i H' x H3 (by omega) sq y
  obtain ⟨d, hd, rd⟩ := rps_get ra h4
  obtain ⟨e, he, re⟩ := rps_get rb h5
  have st := stp_newG (o := .tup [u, v]) gh nT
  refine ⟨upd G' T (.tup [u, v]), .tuple .mad [d, e], same_new2 gh nT, st, ?_, .tup upd_same (.cons (rp_same (g.trans st.gg) rd) (.cons (rp_same (g.trans st.gg) re) .nil))⟩
  have ez : (ds.zip es)[i]? = some (d, e) := List.getElem?_zip_eq_some.mpr ⟨hd, he⟩
  rw [List.getElem?_map, ez]
  rfl
theorem si_zip {m : MA} {elts : List Expr} {kk : Nat} {tpos : Pos} (hK : X.K = K) (hg : Gl X "zip") (hm : X.mg "zip" = none) (ha : SA K X [a, b] m)
    (hs : starEach [a, b] X.env = (false, eval a X.env) :: starEach [b] X.env := by rfl) (hpl : (backTo pos (starEach [b] X.env)).any (·.1) = false := by rfl) : SI K X (.Tuple elts kk tpos) (.Call (.Name "zip" p) [a, b] [] pos) (mZip m) := by
  subst hK
  refine ⟨fun ρ k k' w => ha.mono ρ _ _ fun ds ρ1 h => ?_, pi_weak (RZ.pi_zipA hg hm ha.pa hs hpl) fun σ H R ⟨G, ρ, Rl, q⟩ => ⟨G, ρ, Rl, ha.mono ρ _ _ (fun ds ρ1 h vs G1 H1 R1 l r => ?_) q⟩⟩
  · split at h
    · exact w _ _ h
    · exact h.elim
  · split at h
    · obtain ⟨x, y, rfl, r1, r2⟩ := rps2 r
      cases r1 with
      | lst s1 a1 =>
        cases r2 with
        | lst s2 a2 => exact ⟨_, _, _, _, rfl, .inl ⟨.inl (rd_same R1.gh s1), .inl (rd_same R1.gh s2), h _ G1 H1 R1 l (wk_zip s1 s2 a1 a2)⟩⟩
    · exact h.elim
end
end Dl

set_option Elab.async false
set_option linter.all false
set_option maxRecDepth 100000
set_option maxHeartbeats 4000000
/-! Defs that may raise one of two refusals, each with a part, by data. -/
namespace Br
open PySem PySem.Spec PyProof.Rows L2
section
variable {P : Program} {w : World} {K : PySem.W.Frag} {mg : Str → Option Value} {base : Heap} {k j : Nat} {f : Addr} {fd : FuncData} {ps : List Str} {sp : Sp}
/-- a def that may raise, where no repr is under way -/
theorem okGX {x qual : Str} {st : Stmt} {N : List Str} (F : Fun K x qual st f fd) (S : FnScope N ps (defScope st)) (len : ∀ vs H Q E, sp vs H Q E → vs.length = ps.length)
    (body : ∀ (cdv : Value) (Ar : Around) (out : List PySem.Env) (s0 : Shared) (H : Hp) (vs : List V) (Q : VK) (E : XK), Bare Ar → Room k (Ar.deeper (envOfC qual (defScope st) s0.heap.objs.size f cdv)) → sp vs H Q E →
      ∃ t, PSs (cxOf (L2.CX P w) P w K mg base N qual (defScope st) f cdv Ar out s0 H E) (defBody st) t ∧ t { nx := fun _ H' => Q .non H', rt := Q } (start N vs) H) : FnG P w K mg base (L2.CX P w) (k + 1) f fd ps sp := by
  obtain ⟨oc, od, kV, dc, pm, an, cdv, ct, osl, rfl, lk, hcd⟩ := F.ex
  refine ⟨len, fun Ar out s0 H as us vs Q E hG hr e0 hb r hsp => ?_⟩
  have hl := len _ _ _ _ hsp
  have inK : K.In s0.heap := e0.mod.kin.keeps fun b o q => (e0.bs b o q).1
  have lim : s0.heap.NoLimit := e0.mod.nolimit.keeps fun b o q => (e0.bs b o q).1
  refine codeAny_call_function hr.depth (inK _ _ lk) rfl S.co S.gen rfl (PySem.W.codeRec_of inK hcd) (hb _ _ _ _ ?_)
  refine wpAny_newFunctionEnv_cells S.kind (fun ⟨n, v⟩ hy => (S.par n (List.of_mem_zip hy).1).imp id fun q => ⟨q, PySem.W.cellsFrom_some _ _ _ (.inl q)⟩) fun env he s1 x => ?_
  subst he
  refine ⟨lim.keeps x.toInCall.keep, codeAny_func ?_⟩
  obtain ⟨t, ht, hq⟩ := body cdv Ar out s0 H vs Q E hG (hr.deeper _) hsp
  have I : Inv (cxOf (L2.CX P w) P w K mg base N qual (defScope st) f cdv Ar out s0 H E) [] (start N vs) H s1 := inv_start S hr.hd e0 hl r x
  refine wpAny_mono (ht.run [] s1 (start N vs) H _ I hq) (fun fl s' hs => ?_) fun _ _ hs => hs
  cases fl with
  | ret u => obtain ⟨v, _, H', J, rv, q⟩ := hs; exact ⟨v, H', J.os, J.bare, J.base, J.hok, rv, q⟩
  | next => obtain ⟨_, H', J, q⟩ := hs; exact ⟨V.non, H', J.os, J.bare, J.base, J.hok, rfl, q⟩
  | brk => exact hs.elim fun _ z => z.elim fun _ z => z.2.elim
  | cont => exact hs.elim fun _ z => z.elim fun _ z => z.2.elim
end
section
variable {X : Cx} {CX : CXT} {k : Nat} {f : Addr} {fd : FuncData} {ps : List Str} {sp : Sp} {E : L2.St → XK} {x : Str} {p pos : Pos} {e : Expr} {es : List Expr} {t : TA}
/-- f(e, ..), what it raises handed on as the slots are -/
theorem pe_callGSX (F : FnG X.prog X.w X.K X.mg X.base CX k f fd ps sp) (hG : Bare X.A) (hr : Room k X.A) (hg : Gl X x) (hm : X.mg x = some (.ref f)) (hk : PySem.W.keepIn X.K (.ref f) = true) (hb : Binds X.K fd ps []) (hx : ∀ σ, PassesAt CX X σ (E σ))
    (ha : PA X (e :: es) t) (hdb : (x == ("__debug__" : Str)) = false := by decide) (he : starEach (e :: es) X.env = (false, eval e X.env) :: starEach es X.env := by rfl) (hpl : (backTo pos (starEach es X.env)).any (·.1) = false := by rfl) :
    PE X (.Call (.Name x p) (e :: es) [] pos) (tCallS sp E t) := by
  constructor
  intro pins s σ H Q I h
  refine wpAny_Call_Name_kw (ld_glob I hg hm ?_ hdb)
  refine PySem.W.callWith_K (h₀ := X.base) I.ok.mod.kin hk (thn (ha.run pos pins s σ H _ I h) fun us s1 hh => ?_) he hpl
  obtain ⟨vs, H1, I1, r, q⟩ := hh
  refine ⟨I1.kIn, ?_⟩
  have hl : (us ++ []).length = ps.length := by rw [List.append_nil, ← r.length]; exact F.many _ _ _ _ q
  have bb := hb s1 us I1.kIn hl
  rw [List.append_nil] at bb
  refine wpAny_call (codeAny_mono (F.runs X.A X.stack s1 H1 ⟨us, []⟩ us vs Q (E σ) hG hr I1.env0 bb r q) fun res s' hq => ?_)
  rcases res with u | fl
  · exact hx σ pins H1 s1 u s' I1 hq
  · cases fl with
    | ret u => exact I1.after hq
    | _ => exact False.elim hq
end
end Br
namespace Dl
open PySem PySem.Spec PyProof.Rows L2 Br
/-- what is wanted behind a statement that may raise: xc of a refusal, which one, its part -/
structure Dx where
  nx : Cs → Prop
  rt : D → Cs → Prop
  xc : Bool → D → Prop
  bk : Cs → Prop := fun _ => False
  ct : Cs → Prop := fun _ => False
abbrev MX := Dx → Cs → Prop
def MoX (m : MX) : Prop := ∀ (ρ : Cs) (E E' : Dx), (∀ ρ', E.nx ρ' → E'.nx ρ') → (∀ d ρ', E.rt d ρ' → E'.rt d ρ') → (∀ b d, E.xc b d → E'.xc b d) → (∀ ρ', E.bk ρ' → E'.bk ρ') → (∀ ρ', E.ct ρ' → E'.ct ρ') → m E ρ → m E' ρ
/-- how what is handed back lies -/
abbrev FR := L2.St → Hp → Cs → Hp → Hp → V → D → Prop
def rE (K : PySem.W.Frag) : FR := fun _ _ _ G' _ v d => Rp K G' v d
def rF (K : PySem.W.Frag) : FR := fun σ H ρ G' H' v d => ∃ p o, v = .ref p ∧ (H p = none ∨ Ow σ ρ p) ∧ H' p = some o ∧ G' p = none ∧ ObR K G' o d
def UpR (φ : FR) : Prop := ∀ (σ σ1 : L2.St) (G G1 H H1 : Hp) (ρ ρ1 : Cs) (G' H' : Hp) (v : V) (d : D), Lk 0 σ G H ρ σ1 G1 H1 ρ1 → φ σ1 H1 ρ1 G' H' v d → φ σ H ρ G' H' v d
theorem upE {K : PySem.W.Frag} : UpR (rE K) := fun _ _ _ _ _ _ _ _ _ _ _ _ _ h => h
theorem upF {K : PySem.W.Frag} : UpR (rF K) := fun _ _ _ _ _ _ _ _ _ _ _ _ l ⟨p, o, e, h0, r⟩ => ⟨p, o, e, h0.elim (fun h0 => .inl (l.st.dom p h0)) fun w => (l.sb p w).symm, r⟩
def tSX (K : PySem.W.Frag) (φ : FR) (C : Bool → Addr) (W : WX) (m : MX) : TS := fun T σ H => ∃ G ρ E, Rel K σ G H ρ ∧ m E ρ ∧
  (∀ σ' G' H' ρ', Rel K σ' G' H' ρ' → Lk 0 σ G H ρ σ' G' H' ρ' → E.nx ρ' → T.nx σ' H') ∧
  (∀ v d σ' G' H' ρ', Rel K σ' G' H' ρ' → Lk 0 σ G H ρ σ' G' H' ρ' → φ σ H ρ G' H' v d → E.rt d ρ' → T.rt v H') ∧
  (∀ b v d dd σ' G' H' ρ', Rel K σ' G' H' ρ' → Lk 0 σ G H ρ σ' G' H' ρ' → Rp K G' v d → H' dd = some (.xd [("part", v)]) → E.xc b d → W (.ref (C b)) (some dd) σ' H') ∧
  (∀ σ' G' H' ρ', Rel K σ' G' H' ρ' → Lk 0 σ G H ρ σ' G' H' ρ' → E.bk ρ' → T.bk σ' H') ∧
  (∀ σ' G' H' ρ', Rel K σ' G' H' ρ' → Lk 0 σ G H ρ σ' G' H' ρ' → E.ct ρ' → T.ct σ' H')
structure SX (K : PySem.W.Frag) (φ : FR) (C : Bool → Addr) (W : WX) (X : Cx) (st : Stmt) (m : MX) : Prop where
  mono : MoX m
  ps : PS X st (tSX K φ C W m)
structure BX (K : PySem.W.Frag) (φ : FR) (C : Bool → Addr) (W : WX) (X : Cx) (sts : List Stmt) (m : MX) : Prop where
  mono : MoX m
  ps : PSs X sts (tSX K φ C W m)
section
variable {K : PySem.W.Frag} {φ : FR} {C : Bool → Addr} {W : WX} {X : Cx} {st : Stmt} {sts : List Stmt} {ms : MS} {m mu : MX} {e c : Expr} {me : ME} {tm : MT} {pos : Pos}
def mL (ms : MS) : MX := fun E ρ => ms { nx := E.nx, rt := fun _ _ => False, bk := E.bk, ct := E.ct } ρ
theorem sx_of (h : SS K 0 X st ms) : SX K φ C W X st (mL ms) :=
  ⟨fun ρ E E' a _ _ b c q => h.mono ρ { nx := E.nx, rt := fun _ _ => False, bk := E.bk, ct := E.ct } _ a (fun _ _ z => z) b c q, ps_weak h.ps fun T σ H ⟨G, ρ, E, R, q, a, _, _, b, c⟩ => ⟨G, ρ, _, R, q, a, (fun _ _ _ _ _ _ _ _ _ z => z.elim), b, c⟩⟩
def xNext : MX := fun E ρ => E.nx ρ
theorem bx_nil : BX K φ C W X [] xNext := ⟨fun ρ E E' a _ _ _ _ => a ρ, pss_weak pss_nil fun T σ H ⟨G, ρ, E, R, q, a, _⟩ => a σ G H ρ R .refl q⟩
theorem bx_one (h : SX K φ C W X st m) : BX K φ C W X [st] m := ⟨h.mono, pss_one h.ps⟩
def xSeq (a b : MX) : MX := fun E ρ => a { E with nx := b E } ρ
theorem bx_cons (up : UpR φ) (h : SX K φ C W X st m) (g : BX K φ C W X sts mu) : BX K φ C W X (st :: sts) (xSeq m mu) := by
  refine ⟨fun ρ E E' a b x c d q => h.mono ρ { E with nx := mu E } _ (fun ρ1 => g.mono ρ1 E E' a b x c d) b x c d q, pss_weak (pss_cons h.ps g.ps) fun T σ H ⟨G, ρ, E, R, q, a, b, x, c, d⟩ => ?_⟩
  refine ⟨G, ρ, _, R, q, fun σ1 G1 H1 ρ1 R1 l1 q1 => ?_, b, x, c, d⟩
  exact ⟨G1, ρ1, E, R1, q1, fun σ2 G2 H2 ρ2 R2 l2 => a σ2 G2 H2 ρ2 R2 (l1.trans l2), fun v d σ2 G2 H2 ρ2 R2 l2 f => b v d σ2 G2 H2 ρ2 R2 (l1.trans l2) (up _ _ _ _ _ _ _ _ _ _ _ _ l1 f), fun t v d dd σ2 G2 H2 ρ2 R2 l2 => x t v d dd σ2 G2 H2 ρ2 R2 (l1.trans l2), fun σ2 G2 H2 ρ2 R2 l2 => c σ2 G2 H2 ρ2 R2 (l1.trans l2), fun σ2 G2 H2 ρ2 R2 l2 => d σ2 G2 H2 ρ2 R2 (l1.trans l2)⟩
def xIf (t : MT) (a b : MX) : MX := fun E ρ => t ρ fun c ρ1 => if c = true then a E ρ1 else b E ρ1
theorem sx_if {a b : List Stmt} (up : UpR φ) (hc : ST K X c tm) (h : BX K φ C W X a m) (g : BX K φ C W X b mu) : SX K φ C W X (.If c a b pos) (xIf tm m mu) := by
  refine ⟨fun ρ E E' a b x c d => hc.mono ρ _ _ fun t ρ1 q => ?_, ps_weak (ps_if hc.pt h.ps g.ps) fun T σ H ⟨G, ρ, E, R, q, a, b, x, c, d⟩ => ⟨G, ρ, R, hc.mono ρ _ _ (fun t ρ1 q G1 H1 R1 l => ?_) q⟩⟩
  · cases t
    · exact g.mono ρ1 _ _ a b x c d q
    · exact h.mono ρ1 _ _ a b x c d q
  · cases t
    · exact ⟨G1, ρ1, E, R1, q, fun σ2 G2 H2 ρ2 R2 l2 => a σ2 G2 H2 ρ2 R2 (l.trans l2), fun v d σ2 G2 H2 ρ2 R2 l2 f => b v d σ2 G2 H2 ρ2 R2 (l.trans l2) (up _ _ _ _ _ _ _ _ _ _ _ _ l f), fun t v d dd σ2 G2 H2 ρ2 R2 l2 => x t v d dd σ2 G2 H2 ρ2 R2 (l.trans l2), fun σ2 G2 H2 ρ2 R2 l2 => c σ2 G2 H2 ρ2 R2 (l.trans l2), fun σ2 G2 H2 ρ2 R2 l2 => d σ2 G2 H2 ρ2 R2 (l.trans l2)⟩
    · exact ⟨G1, ρ1, E, R1, q, fun σ2 G2 H2 ρ2 R2 l2 => a σ2 G2 H2 ρ2 R2 (l.trans l2), fun v d σ2 G2 H2 ρ2 R2 l2 f => b v d σ2 G2 H2 ρ2 R2 (l.trans l2) (up _ _ _ _ _ _ _ _ _ _ _ _ l f), fun t v d dd σ2 G2 H2 ρ2 R2 l2 => x t v d dd σ2 G2 H2 ρ2 R2 (l.trans l2), fun σ2 G2 H2 ρ2 R2 l2 => c σ2 G2 H2 ρ2 R2 (l.trans l2), fun σ2 G2 H2 ρ2 R2 l2 => d σ2 G2 H2 ρ2 R2 (l.trans l2)⟩
def xRet (me : ME) : MX := fun E ρ => me ρ fun d ρ1 => E.rt d ρ1
theorem sx_ret (h : SE K (fE K) X e me) : SX K (rE K) C W X (.Return (some e) pos) (xRet me) :=
  ⟨fun ρ E E' _ b _ _ _ => h.mono ρ _ _ b, ps_weak (ps_ret h.pe) fun T σ H ⟨G, ρ, E, R, q, _, b, _⟩ => ⟨G, ρ, R, h.mono ρ _ _ (fun d ρ1 q v G1 H1 R1 l r => b v d σ G1 H1 ρ1 R1 l r q) q⟩⟩
theorem sx_retF (h : SE K (fF K) X e me) : SX K (rF K) C W X (.Return (some e) pos) (xRet me) :=
  ⟨fun ρ E E' _ b _ _ _ => h.mono ρ _ _ b, ps_weak (ps_ret h.pe) fun T σ H ⟨G, ρ, E, R, q, _, b, _⟩ => ⟨G, ρ, R, h.mono ρ _ _ (fun d ρ1 q v G1 H1 R1 l r => b v d σ G1 H1 ρ1 R1 l (by
    obtain ⟨p, o, e1, h0, _, hp, gp, ob⟩ := r
    exact ⟨p, o, e1, .inl h0, hp, gp, ob⟩) q) q⟩⟩
def xRetO (i : Nat) : MX := fun E ρ => match ρ[i]? with
  | some (.own d) => E.rt d ρ
  | _ => False
theorem sx_retO {i : Nat} (h : PE X e (tVar i)) : SX K (rF K) C W X (.Return (some e) pos) (xRetO i) := by
  refine ⟨fun ρ E E' _ w _ _ _ q => ?_, ps_weak (ps_ret h) fun T σ H ⟨G, ρ, E, R, q, _, b, _⟩ => ?_⟩
  · unfold xRetO at q ⊢
    split at q
    · exact w _ _ q
    · exact q.elim
  · unfold xRetO at q
    split at q
    · rename_i d e1
      obtain ⟨p, o, hv, hp, gp, ob⟩ := R.own i d e1
      exact ⟨_, hv, b _ d σ G H ρ R .refl ⟨p, o, rfl, .inr ⟨i, d, e1, hv⟩, hp, gp, ob⟩ q⟩
    · exact q.elim
/-! for -/
def xForL (mg : MG) (b : MX) (E : Dx) : List D → Cs → Prop
  | [], ρ => E.nx ρ
  | x :: r, ρ => mg x ρ fun ρ1 => b { E with nx := xForL mg b E r, ct := xForL mg b E r, bk := E.nx } ρ1
def xFor (mi : MI) (mg : MG) (b : MX) : MX := fun E ρ => mi ρ fun xs ρ1 => xForL mg b E xs ρ1
theorem mox_forL {mg : MG} {g : TG} {ts : List Nat} (sg : SG K 0 ts g mg) (hb : MoX m) {E E' : Dx} (a : ∀ ρ', E.nx ρ' → E'.nx ρ') (b : ∀ d ρ', E.rt d ρ' → E'.rt d ρ') (x : ∀ t d, E.xc t d → E'.xc t d) : ∀ (xs : List D) (ρ : Cs), xForL mg m E xs ρ → xForL mg m E' xs ρ
  | [], ρ, h => a ρ h
  | y :: r, ρ, h => sg.mono _ _ _ _ (fun ρ1 => hb ρ1 { E with nx := xForL mg m E r, ct := xForL mg m E r, bk := E.nx } _ (mox_forL sg hb a b x r) b x a (mox_forL sg hb a b x r)) h
theorem sx_for {tg iter : Expr} {body : List Stmt} {mi : MI} {g : TG} {mg : MG} {ts : List Nat} (up : UpR φ) (hp : PassesOwn (model X.prog X.w) X.A X.env X.xe) (hc : X.calm = true) (hi : SI K X tg iter mi) (hg : PG X tg g) (sg : SG K 0 ts g mg) (hb : BX K φ C W X body m)
    (hs : ∀ x, foldedSetIterable iter X.env x = pure x := by intro _; rfl) : SX K φ C W X (.For tg iter body [] pos) (xFor mi mg m) := by
  refine ⟨fun ρ E E' a b x _ _ => hi.mono ρ _ _ fun xs ρ1 => mox_forL sg hb.mono a b x xs ρ1, ps_weak (ps_for hp hc hi.pi hg hb.ps hs) fun T σ H ⟨G, ρ, E, R, q, a, b, x, c, d⟩ => ⟨G, ρ, R, hi.mono ρ _ _ (fun xs ρ1 q J G1 H1 R1 l1 wk => ?_) q⟩⟩
  refine ⟨fun i k σ' H' => k = xs.length - i ∧ i ≤ xs.length ∧ ∃ G' ρ', Rel K σ' G' H' ρ' ∧ Same G1 G' ∧ Lk 0 σ G H ρ σ' G' H' ρ' ∧ xForL mg m E (xs.drop i) ρ', ⟨_, rfl, Nat.zero_le _, G1, ρ1, R1, .refl _, l1, q⟩, ?_⟩
  rintro i k σ2 H2 ⟨rfl, hle, G2, ρ2, R2, g2, l2, q2⟩
  obtain ⟨w1, w2, w3⟩ := wk G2 H2 g2 R2.gh
  by_cases hlt : i < xs.length
  · refine .inr ⟨w1 i hlt, fun σ' H' => ∃ G' ρ', Rel K σ' G' H' ρ' ∧ Same G1 G' ∧ Lk 0 σ G H ρ σ' G' H' ρ' ∧ xForL mg m E (xs.drop (i + 1)) ρ', fun σ' H' z => ⟨xs.length - (i + 1), by omega, rfl, hlt, z⟩, fun y H3 yy => ?_⟩
    obtain ⟨G3, dx, gh3, st3, hx, rx⟩ := w3 i y H3 hlt yy
    have R3 := R2.pure st3 gh3
    have l3 := l2.trans (Lk.pure (n := 0) (ρ := ρ2) (σ := σ2) st3)
    have e : xs.drop i = dx :: xs.drop (i + 1) := by
      rw [List.drop_eq_getElem_cons hlt]
      rw [List.getElem?_eq_getElem hlt] at hx
      rw [Option.some.inj hx]
    rw [e] at q2
    refine sg.run σ2 G3 H3 ρ2 y dx _ R3 rx (sg.mono _ _ _ _ (fun ρ4 q4 σ4 R4 l4 _ => ?_) q2)
    have l4 := l3.trans l4
    refine ⟨G3, ρ4, _, R4, q4, ?_, ?_, ?_, ?_, ?_⟩
    · exact fun σ5 G5 H5 ρ5 R5 l5 q5 => ⟨G5, ρ5, R5, (g2.trans st3.gg).trans l5.st.gg, l4.trans l5, q5⟩
    · exact fun v d σ5 G5 H5 ρ5 R5 l5 f => b v d σ5 G5 H5 ρ5 R5 (l4.trans l5) (up _ _ _ _ _ _ _ _ _ _ _ _ l4 f)
    · exact fun t v d dd σ5 G5 H5 ρ5 R5 l5 => x t v d dd σ5 G5 H5 ρ5 R5 (l4.trans l5)
    · exact fun σ5 G5 H5 ρ5 R5 l5 => a σ5 G5 H5 ρ5 R5 (l4.trans l5)
    · exact fun σ5 G5 H5 ρ5 R5 l5 q5 => ⟨G5, ρ5, R5, (g2.trans st3.gg).trans l5.st.gg, l4.trans l5, q5⟩
  · have e : i = xs.length := by omega
    subst e
    rw [List.drop_length] at q2
    exact .inl ⟨w2, a σ2 G2 H2 ρ2 R2 l2 q2⟩
/-! expressions that may raise -/
abbrev MXE := Cs → (D → Cs → Prop) → (Bool → D → Prop) → Prop
def MoXE (m : MXE) : Prop := ∀ (ρ : Cs) (k k' : D → Cs → Prop) (x x' : Bool → D → Prop), (∀ d ρ', k d ρ' → k' d ρ') → (∀ b d, x b d → x' b d) → m ρ k x → m ρ k' x'
def tXE (K : PySem.W.Frag) (φ : Fl) (C : Bool → Addr) (W : WX) (m : MXE) : TE := fun σ H Q => ∃ G ρ, Rel K σ G H ρ ∧ m ρ (fun d ρ' => ∀ v G' H', Rel K σ G' H' ρ' → Lk 0 σ G H ρ σ G' H' ρ' → φ H σ ρ' G' H' v d → Q v H')
  (fun b d => ∀ v dd G' H' ρ', Rel K σ G' H' ρ' → Lk 0 σ G H ρ σ G' H' ρ' → Rp K G' v d → H' dd = some (.xd [("part", v)]) → W (.ref (C b)) (some dd) σ H')
structure XE (K : PySem.W.Frag) (φ : Fl) (C : Bool → Addr) (W : WX) (X : Cx) (e : Expr) (m : MXE) : Prop where
  mono : MoXE m
  pe : PE X e (tXE K φ C W m)
variable {mx : MXE} {φ' : Fl}
def xSet (i : Nat) (m : MXE) : MX := fun E ρ => m ρ (fun d ρ1 => E.nx (ρ1.set i (.fro d))) E.xc
def xSetO (i : Nat) (m : MXE) : MX := fun E ρ => m ρ (fun d ρ1 => E.nx (ρ1.set i (.own d))) E.xc
def xDrop (m : MXE) : MX := fun E ρ => m ρ (fun _ ρ1 => E.nx ρ1) E.xc
theorem sx_setO {i : Nat} {x : Str} {pos' : Pos} (hN : X.N.Nodup) (hi : X.N[i]? = some x) (hx : Loc X.env.scope x) (h : Dl.XE K (fF K) C W X e mx) (hs : swapsWith e (some (.Name x pos')) pos.line X.env = pure false := by rfl) (hf : X.fn x = true ∨ X.env.scope.names.lookup x = some .local := by first | exact .inl rfl | exact .inr rfl | assumption) :
    SX K φ C W X (.Assign [.Name x pos'] e pos) (xSetO i mx) := by
  refine ⟨fun ρ E E' a _ t _ _ => h.mono ρ _ _ _ _ (fun _ ρ1 => a _) t, ps_weak (ps_set hN hi hx h.pe hs hf) fun T σ H ⟨G, ρ, E, R, q, a, _, t, _⟩ => ⟨G, ρ, R, h.mono ρ _ _ _ _ (fun d ρ1 q v G1 H1 R1 l r => ?_) (fun b d q v dd G1 H1 ρ1 R1 l r hd => t b v d dd σ G1 H1 ρ1 R1 l r hd q) q⟩⟩
  obtain ⟨p, o, rfl, h0, nw, hp, gp, ob⟩ := r
  exact a _ G1 H1 _ (R1.setO hp gp nw ob) (l.setO R1.len (Nat.zero_le _) h0) q
theorem sx_expr (h : Dl.XE K φ' C W X e mx) (hs : swapsWith e none pos.line X.env = pure false := by rfl) : SX K φ C W X (.Expr e pos) (xDrop mx) :=
  ⟨fun ρ E E' a _ t _ _ => h.mono ρ _ _ _ _ (fun _ ρ1 => a ρ1) t, ps_weak (ps_expr h.pe hs) fun T σ H ⟨G, ρ, E, R, q, a, _, t, _⟩ => ⟨G, ρ, R, h.mono ρ _ _ _ _ (fun d ρ1 q v G1 H1 R1 l r => a σ G1 H1 ρ1 R1 l q) (fun b d q v dd G1 H1 ρ1 R1 l r hd => t b v d dd σ G1 H1 ρ1 R1 l r hd q) q⟩⟩
/-! calls of defs that may raise -/
abbrev Fx := List D → (D → Prop) → (Bool → D → Prop) → Prop
def spX (K : PySem.W.Frag) (π : PF) (C : Bool → Addr) (np : Nat) (F : Fx) : Sp := fun vs H Q E => vs.length = np ∧ ∃ G ds, Same G H ∧ RpAll K G vs ds ∧ F ds (Then K π G H Q)
  (fun b d => ∀ v dd G' H', Same G' H' → Stp Pure G H G' H' → Rp K G' v d → H' dd = some (.xd [("part", v)]) → E (.ref (C b)) (some dd) H')
structure FnX (P : Program) (w : World) (K : PySem.W.Frag) (mg : Str → Option Value) (base : Heap) (k : Nat) (f : Addr) (fd : FuncData) (ps : List Str) (π : PF) (C : Bool → Addr) (F : Fx) : Prop where
  ok : FnG P w K mg base (L2.CX P w) k f fd ps (spX K π C ps.length F)
  mo : ∀ ds (k k' : D → Prop) (x x' : Bool → D → Prop), (∀ d, k d → k' d) → (∀ b d, x b d → x' b d) → F ds k x → F ds k' x'
  ln : ∀ ds k x, F ds k x → ds.length = ps.length
def xCall (F : Fx) (ma : MA) : MXE := fun ρ k x => ma ρ fun ds ρ1 => F ds (fun d => k d ρ1) x
theorem xe_call {π : PF} {F : Fx} {mr : MA} {k j : Nat} {f : Addr} {fd : FuncData} {ps : List Str} {x : Str} {a : Expr} {es : List Expr} {p : Pos} (Fn : FnX X.prog X.w K X.mg X.base j f fd ps π C F) (em : Emb K π φ') (hK : X.K = K) (tk : Takes X W) (hG : Bare X.A) (hr : Room k X.A) (hj : j ≤ k) (hg : Gl X x) (hm : X.mg x = some (.ref f)) (hk : PySem.W.keepIn K (.ref f) = true)
    (hb : Binds K fd ps []) (ha : SA K X (a :: es) mr)
    (hdb : (x == ("__debug__" : Str)) = false := by decide) (he : starEach (a :: es) X.env = (false, eval a X.env) :: starEach es X.env := by rfl) (hpl : (backTo pos (starEach es X.env)).any (·.1) = false := by rfl) : Dl.XE K φ' C W X (.Call (.Name x p) (a :: es) [] pos) (xCall F mr) := by
  subst hK
  refine ⟨fun ρ k k' x x' w u => ha.mono ρ _ _ fun ds ρ1 => Fn.mo _ _ _ _ _ (fun d => w d ρ1) u, pe_weak (pe_callGSX (E := WE W) Fn.ok hG (hr.mono hj) hg hm hk hb (fun σ => passAt tk σ) ha.pa hdb he hpl) fun σ H Q ⟨G, ρ, R, q⟩ => ⟨G, ρ, R, ha.mono ρ _ _ (fun ds ρ1 q vs G1 H1 R1 l1 rs => ?_) q⟩⟩
  refine ⟨by rw [rps_len rs]; exact Fn.ln _ _ _ q, G1, ds, R1.gh, rs, Fn.mo _ _ _ _ _ (fun d q v G2 H2 gh st pv => ?_) (fun b d q v dd G2 H2 gh st rv hd => ?_) q⟩
  · exact q v G2 H2 (R1.pure st gh) (l1.trans (.pure st)) (em σ ρ ρ1 G H G1 H1 G2 H2 v d R1 l1 pv)
  · exact q v dd G2 H2 ρ1 (R1.pure st gh) (l1.trans (.pure st)) rv hd
end
/-! a def is worth what its body is worth -/
def FofX (np m : Nat) (b : MX) : Fx := fun ds k x => ds.length = np ∧ ∃ (k0 : D → Prop) (x0 : Bool → D → Prop), (∀ d, k0 d → k d) ∧ (∀ b d, x0 b d → x b d) ∧ b { nx := fun _ => False, rt := fun d _ => k0 d, xc := x0 } (ds.map .fro ++ List.replicate m .un)
theorem FofX.mk {np m : Nat} {b : MX} {ds : List D} {k : D → Prop} {x : Bool → D → Prop} (h : ds.length = np) (q : b { nx := fun _ => False, rt := fun d _ => k d, xc := x } (ds.map .fro ++ List.replicate m .un)) : FofX np m b ds k x := ⟨h, k, x, fun _ z => z, fun _ _ z => z, q⟩
section
variable {P : Program} {w : World} {K : PySem.W.Frag} {mg : Str → Option Value} {base : Heap} {k : Nat} {f : Addr} {fd : FuncData} {ps : List Str} {C : Bool → Addr}
theorem fn_ofX {x qual : Str} {st : Stmt} {N : List Str} {np m : Nat} {b : MX} {φ : FR} {π : PF} (Fu : Fun K x qual st f fd) (S : FnScope N ps (defScope st)) (hp : ps.length = np) (hm : N.length - ps.length = m)
    (hφ : ∀ (σ : L2.St) (H : Hp) (ρ : Cs) (G' H' : Hp) (v : V) (d : D), (∀ p, ¬ Ow σ ρ p) → φ σ H ρ G' H' v d → π H G' H' v d)
    (body : ∀ (cdv : Value) (Ar : Around) (out : List PySem.Env) (s0 : Shared) (H : Hp) (E : XK), Bare Ar → Room k (Ar.deeper (envOfC qual (defScope st) s0.heap.objs.size f cdv)) →
      BX K φ C (fun cls d _ H' => E cls d H') (cxOf (L2.CX P w) P w K mg base N qual (defScope st) f cdv Ar out s0 H E) (defBody st) b) : FnX P w K mg base (k + 1) f fd ps π C (FofX np m b) := by
  subst hp hm
  refine ⟨okGX Fu S (fun vs H Q E h => h.1) fun cdv Ar out s0 H vs Q E hG hr hsp => ?_, fun ds k k' x x' w u h => ?_, fun ds k x h => h.1⟩
  · obtain ⟨hl, G, ds, g, r, hd, k0, x0, w0, u0, q⟩ := hsp
    have sb := body cdv Ar out s0 H E hG hr
    have R0 := (rel_fro g r).more (N.length - ps.length)
    have e0 : vs.map some ++ List.replicate (N.length - ps.length) none = L2.start N vs := by unfold L2.start; rw [hl]
    have nu : ∀ (i : Nat) (d : D), (List.replicate (N.length - ps.length) Cell.un)[i]? ≠ some (.own d) := fun i d z => by
      rw [List.getElem?_replicate] at z
      split at z <;> cases z
    rw [e0] at R0
    have no : ∀ p, ¬ Ow (L2.start N vs) (ds.map .fro ++ List.replicate (N.length - ps.length) .un) p := fun p => by rw [← e0]; exact ow_fro nu
    have sp : ∀ {σ' : L2.St} {G' H' : Hp} {ρ' : Cs}, Lk 0 (L2.start N vs) G H (ds.map .fro ++ List.replicate (N.length - ps.length) .un) σ' G' H' ρ' → Stp Pure G H G' H' := fun l => l.st.weak fun a w => absurd w (no a)
    refine ⟨_, sb.ps, G, _, _, R0, q, (fun _ _ _ _ _ _ z => z.elim), fun v d σ' G' H' ρ' R' l f hk => ?_, fun t v d dd σ' G' H' ρ' R' l rv hd hx => ?_, (fun _ _ _ _ _ _ z => z.elim), (fun _ _ _ _ _ _ z => z.elim)⟩
    · exact w0 d hk v G' H' R'.gh (sp l) (hφ _ _ _ _ _ _ _ no f)
    · exact u0 t d hx v dd G' H' R'.gh (sp l) rv hd
  · obtain ⟨h1, k0, x0, h2, h3, h4⟩ := h
    exact ⟨h1, k0, x0, fun d z => w d (h2 d z), fun b d z => u b d (h3 b d z), h4⟩
theorem toE {K : PySem.W.Frag} (σ : L2.St) (H : Hp) (ρ : Cs) (G' H' : Hp) (v : V) (d : D) (_ : ∀ p, ¬ Ow σ ρ p) (h : rE K σ H ρ G' H' v d) : pE K H G' H' v d := h
theorem toF {K : PySem.W.Frag} (σ : L2.St) (H : Hp) (ρ : Cs) (G' H' : Hp) (v : V) (d : D) (no : ∀ p, ¬ Ow σ ρ p) (h : rF K σ H ρ G' H' v d) : pF K H G' H' v d := by
  obtain ⟨p, o, e, h0, hp, gp, ob⟩ := h
  exact ⟨p, o, e, h0.resolve_right (no p), hp, gp, ob⟩
end
end Dl

set_option Elab.async false
set_option linter.all false
set_option maxRecDepth 100000
set_option maxHeartbeats 4000000
/-! try with clauses 'except C as e: return ..'; isinstance of an exception with fields inside of a clause. -/
namespace Br
open PySem PySem.Spec PyProof.Rows L2
abbrev TSA := Addr → Value → Option Addr → TS
/-- what the clauses, each with its name's slot, wish of what the body raises; each ends by a return -/
def wRet (K : PySem.W.Frag) (Wout : WX) (D : Ends) : List (Value × Nat × TSA) → WX
  | [] => Wout
  | (c, i, ts) :: r => fun cls d σ H => ∃ b, PySem.W.exmOne K cls c = some b ∧ (b = true → ∀ a, H a = none → ts a cls d { nx := fun _ _ => False, rt := D.rt, bk := fun _ _ => False, ct := fun _ _ => False } (σ.set i (some (.ref a))) H) ∧ (b = false → wRet K Wout D r cls d σ H)
inductive HdAs (X : Cx) : List ExceptHandler → List (Value × Nat × TSA) → Prop
  | nil : HdAs X [] []
  | cons {x n : Str} {c : Value} {i : Nat} {ts : TSA} {b₀ : Stmt} {suite : List Stmt} {np pos' : Pos} {hds : List ExceptHandler} {l : List (Value × Nat × TSA)} (hc : Names X x c) (hi : X.N[i]? = some n) (hln : X.env.kindOf n = some .local)
      (su : ∀ (a : Addr) (oe : Obj) (cls : Value) (d : Option Addr) (pn : List (Addr × Obj)), Zc cls d oe → (∃ vs, oe.data = .fields vs) → PSs (X.suite a ((a, oe) :: pn)) (b₀ :: suite) (ts a cls d)) (r : HdAs X hds l) :
      HdAs X (.ExceptHandler (some (.Name x np)) (some n) (b₀ :: suite) pos' :: hds) ((c, i, ts) :: l)
section
variable {X : Cx} {body : List Stmt} {h₀ : ExceptHandler} {hds : List ExceptHandler} {l : List (Value × Nat × TSA)} {pos : Pos} {tb : WX → TS} {Wout : WX}
theorem ps_try_ret (hs : X.stack = X.env :: X.outer) (hf : X.env.frame = some X.env.locals) (hN : X.N.Nodup) (tk : Takes X Wout)
    (hb : ∀ (W : WX) (pn : List (Addr × Obj)) (xe : Value → Shared → Prop), Takes (X.tr pn xe) W → PassesOwn (model X.prog X.w) X.A X.env xe → PSs (X.tr pn xe) body (tb W))
    (hh : HdAs X (h₀ :: hds) l) : PS X (.Try body (h₀ :: hds) [] [] pos) (fun D σ H => tb (wRet X.K Wout D l) D σ H) := by
  constructor
  intro pins s σ H D I h
  have ok := I.ok
  have hfr : X.A.frames = some (X.env :: X.outer) := by rw [ok.frames, hs]
  refine wpAny_Try_except (wpAny_mono ((hb (wRet X.K Wout D l) (X.pn ++ pins) (fun e s₁ => wpAny (model X.prog X.w) X.A (noteFrame e X.env) (fun _ s₂ => wpAny (model X.prog X.w) X.A (setFlight e none) (fun _ s₃ =>
    wpAny (model X.prog X.w) X.A (handleBy e X.env (h₀ :: hds)) (SP X pins D) X.xe s₃) X.xe s₂) X.xe s₁) (fun u s' xx => ?_) PassesOwn.looking).run [] s σ H D (I.toTry _) h) (fun fl s1 q => ?_) (fun e s1 q => q))
  · obtain ⟨a, B, sI, pins', σ', H', cls, d, rfl, J', nb, up, sky, na, os, ag, wish⟩ := xx
    have J : Inv X pins σ' H' sI := J'.ofTry ok
    rw [show (X.tr (X.pn ++ pins) _).stack = X.env :: X.outer from hs] at sky
    show wpAny (model X.prog X.w) X.A (noteFrame (.ref a) X.env) _ _ _
    refine Sky.land Zc.steady hfr hf sky fun h3 fl3 up3 => ?_
    have J3 : Inv X pins σ' H' { s' with heap := h3 } := J.landed nb fl3.1 (up.trans up3) os ag
    obtain ⟨oe3, vs3, he3, hz3, hd3⟩ := fl3.there
    have nfr : a ∉ frs (X.env :: X.outer) := fun hm => by
      obtain ⟨_, o', e', hnf⟩ := fl3.2.2.1.mem hm
      rw [he3] at e'
      cases e'
      exact hnf _ hd3
    have nL : a ≠ X.env.locals := fun z => nfr (List.mem_filterMap.mpr ⟨X.env, List.mem_cons_self, by rw [hf, z]⟩)
    have nF : a ∉ X.fs := fun hm => by
      obtain ⟨e, he, q⟩ := List.mem_filterMap.mp hm
      exact nfr (List.mem_filterMap.mpr ⟨e, List.mem_cons_of_mem _ he, q⟩)
    have S3 := J3.suite he3 hd3 na nL nF
    have each : ∀ {gs : List ExceptHandler} {l' : List (Value × Nat × TSA)}, HdAs X gs l' → wRet X.K Wout D l' cls d σ' H' → wpAny (model X.prog X.w) X.A (handleBy (.ref a) X.env gs) (SP X pins D) X.xe { s' with heap := h3 } := by
      intro gs l' hk
      induction hk with
      | nil =>
        intro wo
        refine wpAny_handleBy_nil ?_
        obtain ⟨k1, k2, k3, oe, vs, T, oT, ts', he, hz, hd, h1, hr⟩ := id fl3
        have last : wpAny (model X.prog X.w) X.A (setFlight (.ref a) X.env.frame) (fun _ s4 => wpAny (model X.prog X.w) X.A (throw (.ref a) : Sem Flow) (SP X pins D) X.xe s4) X.xe { s' with heap := h3 } := by
          rw [hf]
          exact HandSPX.setFlight_upZ fl3 fun h4 hh4 up4 => wpAny_throw (tk _ _ ⟨a, B, sI, pins, σ', H', cls, d, rfl, J, nb, (up.trans up3).trans up4, .inr (.inr (by rw [hs]; exact hh4)), na, os, ag, wo⟩)
        unfold PySem.passOn
        refine wpAny_bind (wpAny_field he hd h1 ?_)
        rw [if_neg (show ¬ ((Value.ref T == Value.none) = true) from by simp)]
        first
          | exact wpAny_bind (wpAny_pure (wpAny_bind last))
          | exact wpAny_bind last
      | @cons x n c i ts b₀ suite np pos' hds2 l2 hc hi hln su r ih =>
        intro wo
        obtain ⟨b, hb1, hyes, hno⟩ := wo
        refine wpAny_handleBy_cons (codeAny_handlers_test ?_) (by intro q; cases q)
        have LT : PySem.W.Looks (model X.prog X.w) h3 (typeOf (.ref a)) cls := fun _ _ _ _ k q => wpAny_typeOf_ref (k _ _ he3) (by rw [hz3.1]; exact q)
        have LM := PySem.W.exm_one (M := model X.prog X.w) J3.kIn LT hb1
        have test : ∀ {Q : Value → Shared → Prop} {E : Value → Shared → Prop}, Q c { s' with heap := h3 } → wpAny (model X.prog X.w) (X.A.mark (some (.ref a))) (eval (.Name x np) X.env) Q E { s' with heap := h3 } := by
          intro Q E q
          obtain ⟨hg, hdbg, hm | ⟨hm, hv, hnn⟩⟩ := hc
          · exact ld_glob (X := X.suite a ((a, oe3) :: (X.pn ++ pins))) S3 hg hm q hdbg
          · exact ld_blt (X := X.suite a ((a, oe3) :: (X.pn ++ pins))) S3 hg hm hv q hnn hdbg
        refine test (LM.here ?_)
        cases b with
        | true =>
          refine codeAny_handlers_suite_as (HandSPX.lands_againZ fl3 fun h4 fl4 up4 => ?_)
          have J4 : Inv X pins σ' H' { s' with heap := h4 } := J.landed nb fl4.1 ((up.trans up3).trans up4) os ag
          obtain ⟨oe4, vs4, he4, hz4, hd4⟩ := fl4.there
          refine store_ok (X := X.suite a ((a, oe4) :: (X.pn ++ pins))) (v := .ref a) (J4.suite he4 hd4 na nL nF) hN hi (.inl hln) rfl (fun s5 S5 => ?_) (.inr hln)
          refine wpAny_mono ((su a oe4 cls d (X.pn ++ pins) hz4 ⟨_, hd4⟩).run [] s5 _ H' _ S5 (hyes rfl a na)) (fun f s6 hsp => ?_) (fun _ _ z => False.elim z)
          cases f with
          | next => exact hsp.elim fun _ z => z.elim fun _ z => z.2.elim
          | brk => exact hsp.elim fun _ z => z.elim fun _ z => z.2.elim
          | cont => exact hsp.elim fun _ z => z.elim fun _ z => z.2.elim
          | ret u =>
            obtain ⟨v6, σ6, H6, S6, r6, q6⟩ := hsp
            exact gone_ok (S6.unsuite ok) hN hi hln fun s7 J7 => ⟨_, _, _, J7, r6, q6⟩
        | false =>
          show wpAny _ X.A (handleBy (.ref a) X.env hds2) _ _ _
          exact ih (hno rfl)
    exact each hh wish
  · cases fl with
    | next => obtain ⟨σ', H', K', z⟩ := q; exact wpAny_execs_nil ⟨σ', H', K'.ofTry ok, z⟩
    | brk => obtain ⟨σ', H', K', z⟩ := q; exact ⟨σ', H', K'.ofTry ok, z⟩
    | cont => obtain ⟨σ', H', K', z⟩ := q; exact ⟨σ', H', K'.ofTry ok, z⟩
    | ret u => obtain ⟨v, σ', H', K', r, z⟩ := q; exact ⟨v, σ', H', K'.ofTry ok, r, z⟩
/-- isinstance(e, c) inside of the clause that caught e -/
theorem call_isES {a D dd : Addr} {oe : Obj} {pn : List (Addr × Obj)} (C : ExcC X.K D) (hz : Zc (.ref D) (some dd) oe) (hfv : ∃ vs, oe.data = .fields vs) :
    CallR (X.suite a ((a, oe) :: pn)) (.builtin "isinstance") (fun xs H Q => ∃ (c : V) (cv : Value) (b : Bool) (fs : List (Str × V)), xs = [.ref a, c] ∧ H dd = some (.xd fs) ∧ ClsV c cv ∧ PySem.W.kitOne X.K (.ref D) cv = some b ∧ Q (.bl b) H) := by
  intro pins s σ H xs us Q I r h
  obtain ⟨c, cv, b, fs, rfl, hd, k, e, q⟩ := h
  obtain ⟨u1, u2, rfl, r1, r2⟩ := vals2 r
  cases (show u1 = Value.ref a from r1)
  cases k.eq r2
  obtain ⟨vs, hv⟩ := hfv
  obtain ⟨g1, _⟩ := I.pin (a, oe) (List.mem_append_left _ List.mem_cons_self)
  obtain ⟨mA, hns, hr⟩ := (show ObjOk X.prog X.w H s.heap dd (.xd fs) from I.hok dd _ hd)
  obtain ⟨od, ho, hl⟩ := lookIn_ns hns
  have J : PySem.W.InstAt s.heap a oe D (some od) := ⟨g1, hz.1, by unfold PySem.W.notCls; rw [hv] <;> rfl, by rw [hz.2]; exact ho⟩
  exact PySem.W.kia_one (kit_exc C) I.kIn J e (fun z => nomatch z) fun tk => ⟨.bl b, H, I.tok tk, rfl, q⟩
end
end Br

set_option Elab.async false
set_option linter.all false
set_option maxRecDepth 100000
set_option maxHeartbeats 4000000
/-! Refusals raised; a def that looks at data, as a def that may raise. -/
namespace Dl
open PySem PySem.Spec PyProof.Rows L2 Br
theorem stp_same {G H H' : Hp} (s : Same H H') : Stp Pure G H G H' := ⟨Same.refl G, fun a o _ h => s a o h, fun _ _ _ _ g _ => g, fun a e => by
  cases z : H a with
  | none => rfl
  | some o => rw [s a o z] at e; cases e⟩
/-- how a refusal with a part is made -/
def spIni (C : Addr) (ok : V → Prop) : Sp := fun vs H Q _ => ∃ (a : Addr) (v : V), vs = [.ref a, v] ∧ ok v ∧ H a = some (exo a C none) ∧ ∀ dx, H dx = none → dx ≠ a → Q .non (upd (upd H dx (exd dx [("part", v)])) a (exo a C (some dx)))
theorem del_same {H : Hp} {a dx : Addr} {o0 o1 o2 o3 : HO} (na : H a = none) (nd : H dx = none) (ne : dx ≠ a) : Same H (upd (L2.del (upd (upd (upd H a o0) dx o1) a o2) a) dx o3) := fun b o e => by
  have h1 : b ≠ dx := ne_of_none e nd
  have h2 : b ≠ a := ne_of_none e na
  rw [upd_ne h1, L2.del_ne h2, upd_ne h2, upd_ne h1, upd_ne h2]
  exact e
section
variable {K : PySem.W.Frag} {φ : FR} {C : Bool → Addr} {W : WX} {X : Cx}
def xRaise (b : Bool) (okd : D → Prop) (m : ME) : MX := fun E ρ => m ρ fun d _ => okd d ∧ E.xc b d
theorem sx_raise {b : Bool} {x : Str} {e : Expr} {m : ME} {fi : Addr} {di : FuncData} {k : Nat} {ok : V → Prop} {okd : D → Prop} {p pos pos' : Pos} (hK : X.K = K) (hc : X.calm = true) (tk : Takes X W) (O : OexC X.K (C b)) (iC : PySem.W.findIn X.K (.ref (C b)) "__init__" = some (some (.ref fi))) (tI : PySem.W.typeIn X.K (.ref fi) = some (.type "function"))
    (Fi : FnOk X.prog X.w X.K X.mg X.base CX0 k fi di ["self", "part"] (spIni (C b) ok)) (hr : Room (k + 1) X.A) (bi : Binds X.K di ["self", "part"] []) (hg : Gl X x) (hm : X.mg x = some (.ref (C b))) (he : SE K (fE K) X e m) (hok : ∀ G v d, Rp K G v d → okd d → ok v)
    (hdb : (x == ("__debug__" : Str)) = false := by decide) (hs : starEach [e] X.env = (false, eval e X.env) :: starEach [] X.env := by rfl) (hpl : (backTo pos (starEach [] X.env)).any (·.1) = false := by rfl) : SX K φ C W X (.Raise (some (.Call (.Name x p) [e] [] pos)) none pos') (xRaise b okd m) := by
  subst hK
  refine ⟨fun ρ E E' _ _ t _ _ => he.mono ρ _ _ fun d ρ1 q => ⟨q.1, t _ _ q.2⟩, ps_weak (ps_raise hc tk (pmk_oex O iC tI Fi hr bi .nil pass0 hg hm (pa_cons he.pe pa_nil hs) hdb hs hpl)) fun T σ H ⟨G, ρ, E, R, q, _, _, t, _⟩ => ?_⟩
  refine ⟨G, ρ, R, he.mono ρ _ _ (fun d ρ1 q v G1 H1 R1 l1 rv => ?_) q⟩
  refine ⟨(by decide : 1 ≤ 1000), fun a na => ⟨a, v, rfl, hok _ _ _ rv q.1, upd_same, fun dx nd ne => ⟨rfl, dx, [("part", v)], upd_same, ?_, ?_, ?_⟩⟩⟩
  · rw [upd_ne ne, upd_same]
  · rw [upd_ne ne] at nd
    exact nd
  · rw [upd_ne ne] at nd
    have sm := del_same (o0 := exo a (C b) none) (o1 := exd dx [("part", v)]) (o2 := exo a (C b) (some dx)) (o3 := .xd [("part", v)]) na nd ne
    exact t b v d dx σ G1 _ ρ1 (R1.pure (stp_same sm) (R1.gh.trans sm)) (l1.trans (.pure (stp_same sm))) rv upd_same q.2
end
/-! ### a def of one argument that gives None or refuses, whatever its promise's form -/
def F_lookX (ok : D → Prop) (am : D → Option D) : Fx := fun ds k x => ∃ d, ds = [d] ∧ ok d ∧ (am d = none → k .none) ∧ ∀ p, am d = some p → x false p
theorem fnX_of {P : Program} {w : World} {K : PySem.W.Frag} {mg : Str → Option Value} {base : Heap} {k : Nat} {f : Addr} {fd : FuncData} {C : Bool → Addr} {ok : D → Prop} {am : D → Option D} {x : Str} {sp : Sp} (F : FnG P w K mg base (L2.CX P w) k f fd [x] sp)
    (wk : ∀ (v : V) (d : D) (H : Hp) (Q : VK) (E : XK), Rp K H v d → ok d → (am d = none → ∀ H', Same H H' → Q .non H') → (∀ p, am d = some p → ∀ (H' : Hp) (dd : Addr) (pv : V), Same H H' → (∀ G, Rp K G pv p) → H' dd = some (.xd [("part", pv)]) → E (.ref (C false)) (some dd) H') → sp [v] H Q E) :
    FnX P w K mg base k f fd [x] (pE K) C (F_lookX ok am) := by
  refine ⟨⟨fun vs H Q E h => h.1, fun Ar out st H as us vs Q E g hr e0 hb r h => F.runs Ar out st H as us vs Q E g hr e0 hb r ?_⟩, fun ds k k' x x' w u ⟨d, h1, h2, h3, h4⟩ => ⟨d, h1, h2, fun z => w _ (h3 z), fun p z => u _ _ (h4 p z)⟩, fun ds k x ⟨d, h1, _⟩ => by rw [h1]; rfl⟩
  obtain ⟨hl, G, ds, gs, rs, d, hd, od, q, qx⟩ := h
  subst hd
  cases rs with
  | cons r1 rs =>
    cases rs
    refine wk _ d H Q E (rp_same gs r1) od (fun z H' s => q z .non G H' (gs.trans s) (stp_same s) .non) fun p z H' dd pv s rp hx => ?_
    exact qx p z pv dd G H' (gs.trans s) (stp_same s) (rp G) hx
end Dl

set_option Elab.async false
set_option linter.all false
set_option maxRecDepth 100000
set_option maxHeartbeats 4000000
/-! A def that reads, or tells which refusal and its part. -/
namespace Br
open PySem PySem.Spec PyProof.Rows L2
section
variable {K : PySem.W.Frag} {C D : Addr}
theorem exm_no (h1 : PySem.W.subIn K (.ref D) (.type "BaseException") = some true) (h2 : PySem.W.isClsIn K D = true) (h3 : PySem.W.typeIn K (.ref D) = some (.type "type")) (h4 : PySem.W.subIn K (.ref C) (.ref D) = some false) : PySem.W.exmOne K (.ref C) (.ref D) = some false := by
  unfold PySem.W.exmOne PySem.W.kitCls
  rw [h1]
  simp only [cls_ok h2 h3, if_true, h4]
  rfl
end
section
variable {X : Cx}
/-- isinstance(e, c) inside of a clause, the class said later -/
theorem call_isEC {a D : Addr} {oe : Obj} {cls : Value} {d : Option Addr} {pn : List (Addr × Obj)} (C : ExcC X.K D) (hz : Zc cls d oe) (hfv : ∃ vs, oe.data = .fields vs) :
    CallR (X.suite a ((a, oe) :: pn)) (.builtin "isinstance") (fun xs H Q => ∃ (dd : Addr) (c : V) (cv : Value) (b : Bool) (fs : List (Str × V)), cls = .ref D ∧ d = some dd ∧ xs = [.ref a, c] ∧ H dd = some (.xd fs) ∧ ClsV c cv ∧ PySem.W.kitOne X.K (.ref D) cv = some b ∧ Q (.bl b) H) := by
  intro pins s σ H xs us Q I r h
  obtain ⟨dd, c, cv, b, fs, rfl, rfl, h⟩ := h
  exact call_isES C hz hfv pins s σ H xs us Q I r ⟨c, cv, b, fs, h⟩
/-- return (z, e.part) -/
def tsPart (z : Str) (C : Addr) (i : Nat) : TSA := fun a cls d T σ H => ∃ (dd : Addr) (v : V), cls = .ref C ∧ d = some dd ∧ σ[i]? = some (some (.ref a)) ∧ H dd = some (.xd [("part", v)]) ∧ ∀ t, H t = none → T.rt (.ref t) (upd H t (.tup [.str z, v]))
theorem su_part {a C : Addr} {oe : Obj} {cls : Value} {d : Option Addr} {pn : List (Addr × Obj)} {i : Nat} {e : Expr} {z : Str} {j : Nat} {p1 p2 p3 p4 : Pos} {x1 : Nat} (T : XfC X.K C) (hno : PySem.W.findIn X.K (.ref C) "part" = some none) (hz : Zc cls d oe) (hf : ∃ vs, oe.data = .fields vs)
    (he : PE (X.suite a ((a, oe) :: pn)) e (tVar i)) (hb : attributeBase e "part" X.env (eval e X.env) = eval e X.env := by rfl)
    (hs1 : starEach [.Constant (.str z) j p1, .Attribute e "part" p2] X.env = (false, eval (.Constant (.str z) j p1) X.env) :: starEach [.Attribute e "part" p2] X.env := by rfl) (hs2 : starEach [.Attribute e "part" p2] X.env = (false, eval (.Attribute e "part" p2) X.env) :: starEach [] X.env := by rfl) :
    PSs (X.suite a ((a, oe) :: pn)) [.Return (some (.Tuple [.Constant (.str z) j p1, .Attribute e "part" p2] x1 p3)) p4] (tsPart z C i a cls d) := by
  refine Dl.pss_weak (pss_one (ps_ret (pe_tup (pa_cons pe_str (pa_cons (pe_xf T hno hz hf he hb) pa_nil hs2) hs1)))) fun T σ H h => ?_
  obtain ⟨dd, v, rfl, rfl, hi, hd, q⟩ := h
  exact ⟨_, hi, rfl, rfl, dd, _, v, rfl, hd, rfl, (show 2 ≤ sizeLine by decide), fun t nt => q t nt⟩
/-- a call that gives 1 for the exception of a class -/
def tOne (C : Addr) (i : Nat) (a : Addr) (cls : Value) (d : Option Addr) : TE := fun σ H Q => (∃ (dd : Addr) (fs : List (Str × V)), cls = .ref C ∧ d = some dd ∧ σ[i]? = some (some (.ref a)) ∧ H dd = some (.xd fs)) ∧ Q (.int 1) H
theorem pe_isOne {a C D : Addr} {oe : Obj} {cls : Value} {d : Option Addr} {pn : List (Addr × Obj)} {i : Nat} {e1 e2 : Expr} {B : String} {p1 p2 p3 p4 p5 p6 p7 p9 : Pos} (E : ExcC X.K C) (hz : Zc cls d oe) (hf : ∃ vs, oe.data = .fields vs)
    (he1 : PE (X.suite a ((a, oe) :: pn)) e1 (tVar i)) (he2 : PE (X.suite a ((a, oe) :: pn)) e2 (tVar i)) (k1 : PySem.W.kitOne X.K (.ref C) (.type B) = some true) (k2 : PySem.W.kitOne X.K (.ref C) (.ref D) = some false)
    (gi : Gl (X.suite a ((a, oe) :: pn)) "int") (mi : X.mg "int" = none) (gs : Gl (X.suite a ((a, oe) :: pn)) "isinstance") (ms : X.mg "isinstance" = none)
    {eb ec : Expr} (hB : PE (X.suite a ((a, oe) :: pn)) eb (tC (.ty B))) (hC : PE (X.suite a ((a, oe) :: pn)) ec (tC (.ref D)))
    (s1 : starEach [e1, eb] X.env = (false, eval e1 X.env) :: starEach [eb] X.env := by rfl) (s2 : starEach [eb] X.env = (false, eval eb X.env) :: starEach [] X.env := by rfl)
    (s3 : starEach [e2, ec] X.env = (false, eval e2 X.env) :: starEach [ec] X.env := by rfl) (s4 : starEach [ec] X.env = (false, eval ec X.env) :: starEach [] X.env := by rfl)
    (b1 : (backTo p2 (starEach [eb] X.env)).any (·.1) = false := by rfl) (b2 : (backTo p4 (starEach [ec] X.env)).any (·.1) = false := by rfl) :
    PE (X.suite a ((a, oe) :: pn)) (.Call (.Name "int" p9) [.BoolOp .And [.Call (.Name "isinstance" p1) [e1, eb] [] p2, .UnaryOp .Not (.Call (.Name "isinstance" p3) [e2, ec] [] p4) p5] p6] [] p7) (tOne C i a cls d) := by
  refine Dl.pe_weak (pe_callTy call_int1 gi mi (by decide +kernel) (pa_cons (pe_and (pe_callB (call_isEC E hz hf) gs ms (by decide +kernel) (pa_cons he1 (pa_cons hB pa_nil s2) s1) (by decide) (by decide) s1 b1) (pe_one (pe_not (pe_callB (call_isEC E hz hf) gs ms (by decide +kernel) (pa_cons he2 (pa_cons hC pa_nil s4) s3) (by decide) (by decide) s3 b2)))) pa_nil)) fun σ H Q h => ?_
  obtain ⟨⟨dd, fs, rfl, rfl, hi, hd⟩, q⟩ := h
  refine ⟨_, hi, dd, .ty B, _, true, fs, rfl, rfl, rfl, hd, .ty _, k1, _, rfl, ?_⟩
  refine (show if true = true then _ else _ from ?_)
  rw [if_pos rfl]
  exact ⟨_, hi, dd, .ref D, _, false, fs, rfl, rfl, rfl, hd, .own _, k2, _, rfl, .inr ⟨_, rfl, q⟩⟩
/-- return [y, (z, e.part)][1] -/
def tsOdd (y z : Str) (C : Addr) (i : Nat) : TSA := fun a cls d T σ H => ∃ (dd : Addr) (v : V), cls = .ref C ∧ d = some dd ∧ σ[i]? = some (some (.ref a)) ∧ H dd = some (.xd [("part", v)]) ∧ ∀ t, H t = none → ∀ p, upd H t (.tup [.str z, v]) p = none → T.rt (.ref t) (upd (upd H t (.tup [.str z, v])) p (.lst [.str y, .ref t]))
theorem su_odd {a C : Addr} {oe : Obj} {cls : Value} {d : Option Addr} {pn : List (Addr × Obj)} {i : Nat} {e ei : Expr} {y z : Str} {j j' : Nat} {p0 p1 p2 p3 p4 p5 p6 : Pos} {x1 : Nat} (T : XfC X.K C) (hno : PySem.W.findIn X.K (.ref C) "part" = some none) (hz : Zc cls d oe) (hf : ∃ vs, oe.data = .fields vs)
    (he : PE (X.suite a ((a, oe) :: pn)) e (tVar i)) (hI : PE (X.suite a ((a, oe) :: pn)) ei (tOne C i a cls d)) (hp : PlainIx ei) (hb : attributeBase e "part" X.env (eval e X.env) = eval e X.env := by rfl)
    (hs1 : starEach [.Constant (.str z) j p1, .Attribute e "part" p2] X.env = (false, eval (.Constant (.str z) j p1) X.env) :: starEach [.Attribute e "part" p2] X.env := by rfl) (hs2 : starEach [.Attribute e "part" p2] X.env = (false, eval (.Attribute e "part" p2) X.env) :: starEach [] X.env := by rfl) :
    PSs (X.suite a ((a, oe) :: pn)) [.Return (some (.Subscript (.List [.Constant (.str y) j' p0, .Tuple [.Constant (.str z) j p1, .Attribute e "part" p2] x1 p3] p4) ei p5)) p6] (tsOdd y z C i a cls d) := by
  refine Dl.pss_weak (pss_one (ps_ret (pe_ix (ix_listK X.K) (pe_lst (pa_cons pe_str (pa_cons (pe_tup (pa_cons pe_str (pa_cons (pe_xf T hno hz hf he hb) pa_nil hs2) hs1)) pa_nil))) hI hp))) fun T σ H h => ?_
  obtain ⟨dd, v, rfl, rfl, hi, hd, q⟩ := h
  refine ⟨_, hi, rfl, rfl, dd, _, v, rfl, hd, rfl, (show 2 ≤ sizeLine by decide), fun t nt => ⟨(show 2 ≤ sizeLine by decide), fun p np => ⟨⟨dd, [("part", v)], rfl, rfl, hi, ?_⟩, p, _, 1, .ref t, rfl, rfl, SqL.of upd_same, rfl, q t nt p np⟩⟩⟩
  have h1 : dd ≠ t := ne_of_none hd nt
  have h2 : upd H t (.tup [.str z, v]) dd = some (.xd [("part", v)]) := by rw [upd_ne h1]; exact hd
  rw [upd_ne (ne_of_none h2 np)]
  exact h2
end
end Br
namespace Dl
open PySem PySem.Spec PyProof.Rows L2 Br
/-- a def that gives ("told", what F gives), ("text", part) or ("deed", part) -/
def F_lread (F : Fx) : Fs := fun cs k => ∃ d, cs = [.fro d] ∧ F [d] (fun r => k (.tuple .mad [.str "told", r]) []) (fun b p => k (.tuple .mad [.str (if b = true then "text" else "deed"), p]) [])
theorem rel_nil {K : PySem.W.Frag} {G H : Hp} (g : Same G H) : Rel K [] G H [] := ⟨g, rfl, nofun, nofun, nofun⟩
theorem lr_end {K : PySem.W.Frag} {C : Bool → Addr} {F : Fx} {v : V} {H : Hp} {Q : VK} {E : XK} {En : Ends} (hD : ∀ v H', Q v H' → En.rt v H') (h : spD K 1 0 (F_lread F) [v] H Q E) (mF : ∀ ds (k k' : D → Prop) (x x' : Bool → D → Prop), (∀ d, k d → k' d) → (∀ b d, x b d → x' b d) → F ds k x → F ds k' x')
    (e1 : PySem.W.exmOne K (.ref (C true)) (.ref (C true)) = some true) (e2 : PySem.W.exmOne K (.ref (C false)) (.ref (C true)) = some false) (e3 : PySem.W.exmOne K (.ref (C false)) (.ref (C false)) = some true) :
    (tTup (tCons (tC (.str "told")) (tCons (tXE K (fE K) C (wRet K (fun _ _ _ _ => False) En [(.ref (C true), 1, tsOdd "odd" "text" (C true) 1), (.ref (C false), 1, tsPart "deed" (C false) 1)]) (xCall F (aCons (mVar 0) aNil))) tNil))) [some v, none] H En.rt := by
  obtain ⟨_, G, cs, R, d, hcs, hF⟩ := h
  subst hcs
  have R2 : Rel K [some v, none] G H [.fro d, .un] := R.more 1
  have noOw : ∀ p, ¬ Ow [some v, none] [.fro d, .un] p := fun p ⟨i, x, a, _⟩ => by
    match i, a with
    | 0, a => cases a
    | 1, a => cases a
  refine ⟨G, [.fro d, .un], R2, ?_⟩
  refine (show F [d] _ _ from mF _ _ _ _ _ (fun r q v' G' H' R' l rv => ?_) (fun b p q v' dd G' H' ρ' R' l rv hd => ?_) hF)
  · refine ⟨(show 2 ≤ sizeLine by decide), fun t nt => hD _ _ ?_⟩
    have st := stp_newG (o := .tup [.str "told", v']) R'.gh nt
    have l' := l.st.trans (st.weak fun _ z => z.elim)
    exact q _ _ _ (same_new2 R'.gh nt) (rel_nil (same_new2 R'.gh nt)) (l'.weak fun a w => absurd w (noOw a)) (.tup upd_same (.cons (.str _) (.cons (rp_same st.gg rv) .nil)))
  · cases b with
    | true =>
      refine ⟨true, e1, fun _ a na => ⟨dd, v', rfl, rfl, rfl, hd, fun t nt p' np => hD _ _ ?_⟩, nofun⟩
      have st := stp_newG (o := .tup [.str "text", v']) R'.gh nt
      have g2 := same_new2 (o := .tup [.str "text", v']) R'.gh nt
      have st2 := stp_new (G := upd G' t (.tup [.str "text", v'])) (o := .lst [.str "odd", .ref t]) np
      have l' := l.st.trans ((st.trans st2).weak fun _ z => z.elim)
      exact q _ _ _ (same_new1 g2 np) (rel_nil (same_new1 g2 np)) (l'.weak fun a w => absurd w (noOw a)) (.tup upd_same (.cons (.str _) (.cons (rp_same st.gg rv) .nil)))
    | false =>
      refine ⟨false, e2, nofun, fun _ => ⟨true, e3, fun _ a na => ⟨dd, v', rfl, rfl, rfl, hd, fun t nt => hD _ _ ?_⟩, nofun⟩⟩
      have st := stp_newG (o := .tup [.str "deed", v']) R'.gh nt
      have l' := l.st.trans (st.weak fun _ z => z.elim)
      exact q _ _ _ (same_new2 R'.gh nt) (rel_nil (same_new2 R'.gh nt)) (l'.weak fun a w => absurd w (noOw a)) (.tup upd_same (.cons (.str _) (.cons (rp_same st.gg rv) .nil)))
end Dl

set_option Elab.async false
set_option linter.all false
set_option maxRecDepth 100000
set_option maxHeartbeats 4000000
/-! enumerate of a list, text.index, list + list, xs.insert(i, y). -/
namespace Dl
open PySem PySem.Spec PyProof.Rows L2 Br
section
variable {X : Cx} {K : PySem.W.Frag} {a b e : Expr} {ma mb m : ME} {p pos : Pos} {n : Nat} {o : Expr}
/-! enumerate -/
def enumD (xs : List D) : List D := xs.zipIdx.map fun z => .tuple .mad [.int (z.2 : Nat), z.1]
def mEnum (ma : MA) : MI := fun ρ k => ma ρ fun ds ρ1 => match ds with
  | [.list xs] => k (enumD xs) ρ1
  | _ => False
theorem wk_enum {G : Hp} {a : Addr} {xs : List V} {ds : List D} (ha : Rd G a (.lst xs)) (ra : RpAll K G xs ds) : Wk K (Ite K a) G (enumD ds) := by
  intro G' H' g gh
  have W := walk_enum (K := K) (a := a) (xs := xs)
  have ln : (enumD ds).length = xs.length := by unfold enumD; rw [List.length_map, List.length_zipIdx, rps_len ra]
  have sq : SqL K H' a xs := .inl (rd_same gh (rd_same g ha))
  refine ⟨fun i hi => W.goes i H' (by omega) sq, by rw [ln]; exact W.stops H' sq, fun i x H3 hi y => ?_⟩
  obtain ⟨T, u, v, rfl, nT, rfl, h4, h5⟩ := W.yields i H' x H3 (by omega) sq y
  cases h4
  obtain ⟨e, he, re⟩ := rps_get ra h5
  have st := stp_newG (o := .tup [.int (i : Nat), v]) gh nT
  refine ⟨upd G' T (.tup [.int (i : Nat), v]), .tuple .mad [.int (i : Nat), e], same_new2 gh nT, st, ?_, .tup upd_same (.cons (.int _) (.cons (rp_same (g.trans st.gg) re) .nil))⟩
  unfold enumD
  rw [List.getElem?_map, List.getElem?_zipIdx, he]
  simp
theorem si_enum {m : MA} {elts : List Expr} {kk : Nat} {tpos : Pos} (hK : X.K = K) (hg : Gl X "enumerate") (hm : X.mg "enumerate" = none) (ha : SA K X [a] m)
    (hs : starEach [a] X.env = [(false, eval a X.env)] := by rfl) : SI K X (.Tuple elts kk tpos) (.Call (.Name "enumerate" p) [a] [] pos) (mEnum m) := by
  subst hK
  refine ⟨fun ρ k k' w => ha.mono ρ _ _ fun ds ρ1 h => ?_, pi_weak (pi_enum hg hm ha.pa hs) fun σ H R ⟨G, ρ, Rl, q⟩ => ⟨G, ρ, Rl, ha.mono ρ _ _ (fun ds ρ1 h vs G1 H1 R1 l r => ?_) q⟩⟩
  · split at h
    · exact w _ _ h
    · exact h.elim
  · split at h
    · cases r with
      | cons r1 r2 =>
        cases r2
        cases r1 with
        | lst s1 a1 => exact ⟨_, _, rfl, .inl (rd_same R1.gh s1), h _ G1 H1 R1 l (wk_enum s1 a1)⟩
    · exact h.elim
/-! s.index(t) -/
def mIndexS (ma mb : ME) : ME := fun ρ k => ma ρ fun da ρ1 => match da with
  | .str x => mb ρ1 fun db ρ2 => match db with
    | .str y => ∃ i r, Builtin.Str.occurrences x y 0 x.length 1 = i :: r ∧ k (.int (i : Nat)) ρ2
    | _ => False
  | _ => False
theorem se_indexS {ap : Pos} (ha : SE K (fE K) X a ma) (hb : SE K (fE K) X b mb) (hs : starEach [b] X.env = [(false, eval b X.env)] := by rfl) (hbase : attributeBase a "index" X.env (eval a X.env) = eval a X.env := by rfl) (hline : (ap.endLine == pos.line) = true := by rfl) :
    SE K (fE K) X (.Call (.Attribute a "index" ap) [b] [] pos) (mIndexS ma mb) := by
  constructor
  · intro ρ k k' w
    refine ha.mono ρ _ _ fun da ρ1 q => ?_
    cases da <;> first | exact q.elim | skip
    refine hb.mono ρ1 _ _ (fun db ρ2 q => ?_) q
    cases db <;> first | exact q.elim | skip
    obtain ⟨i, r, h, q⟩ := q
    exact ⟨i, r, h, w _ _ q⟩
  · refine pe_weak (pe_m1 PySem.F.slot_str_index PySem.F.type_str_index mt_sindex ha.pe hb.pe hs hbase hline) fun σ H Q ⟨G, ρ, R, q⟩ => ⟨G, ρ, R, ha.mono ρ _ _ (fun da ρ1 q x G1 H1 R1 l1 rx => ?_) q⟩
    cases da <;> first | exact q.elim | skip
    rename_i sx
    cases rx
    refine ⟨⟨_, rfl⟩, G1, ρ1, R1, hb.mono ρ1 _ _ (fun db ρ2 q y G2 H2 R2 l2 ry => ?_) q⟩
    cases db <;> first | exact q.elim | skip
    rename_i sy
    cases ry
    obtain ⟨i, r, h, q⟩ := q
    exact ⟨sx, sy, i, r, rfl, rfl, h, q _ G2 _ R2 (l1.trans l2) (.int _)⟩
/-! xs.insert(i, y) -/
def sInsert (i : Nat) (mi mv : ME) : MS := fun E ρ => mOwn i ρ fun d0 _ => (∃ xs, d0 = .list xs) ∧ mi ρ fun di ρ1 => mv ρ1 fun dv ρ2 => match di, ρ2[i]? with
  | .int j, some (.own (.list xs)) => xs.length < sizeLine ∧ 0 ≤ j ∧ j < 2 ^ 63 ∧ E.nx (ρ2.set i (.own (.list (xs.take j.toNat ++ [dv] ++ xs.drop j.toNat))))
  | _, _ => False
theorem ss_insert {i : Nat} {ap p2 : Pos} {e1 e2 : Expr} {mi mv : ME} (hK : X.K = K) (ho : PE X o (tVar i)) (h1 : SE K (fE K) X e1 mi) (hv : SE K (fE K) X e2 mv) (hbase : attributeBase o "insert" X.env (eval o X.env) = eval o X.env := by rfl)
    (hfew : ((backTo p2 (starEach [e1, e2] X.env)).all (fun x => !x.1) && (backToKw p2 (keywordEach [] X.env)).all (fun x => x.1.isSome) && decide (([e1, e2] : List Expr).length + ([] : List Keyword).length + (if ([] : List Keyword).isEmpty then 0 else 1) < 30)) = true := by rfl)
    (hline : (ap.endLine == p2.line) = true := by rfl) (hs : starEach [e1, e2] X.env = (false, eval e1 X.env) :: starEach [e2] X.env := by rfl) (hs2 : starEach [e2] X.env = (false, eval e2 X.env) :: starEach [] X.env := by rfl) (hplain : (backTo p2 (starEach [e2] X.env)).any (·.1) = false := by rfl)
    (hsw : swapsWith (.Call (.Attribute o "insert" ap) [e1, e2] [] p2) none pos.line X.env = pure false := by rfl) : SS K n X (.Expr (.Call (.Attribute o "insert" ap) [e1, e2] [] p2) pos) (sInsert i mi mv) := by
  subst hK
  constructor
  · intro ρ E E' a _ _ _
    refine mo_own ρ _ _ fun d0 _ q => ⟨q.1, h1.mono ρ _ _ (fun di ρ1 q => hv.mono ρ1 _ _ (fun dv ρ2 q => ?_) q) q.2⟩
    split at q
    · exact ⟨q.1, q.2.1, q.2.2.1, a _ q.2.2.2⟩
    · exact q.elim
  · refine ps_weak (ps_expr (pe_bm PySem.F.plainAttrs_list PySem.F.slot_list_insert PySem.F.type_list_insert mt_insert ho (pa_cons h1.pe (pa_cons hv.pe pa_nil hs2) hs) hbase hfew hline hs hplain) hsw) fun T σ H ⟨G, ρ, E, R, q, a, _⟩ => ?_
    obtain ⟨x, d0, hx, vx, ⟨xs, rfl⟩, q⟩ := own_there R q
    obtain ⟨p, ys, rfl, rd, _⟩ := vw_list R.gh vx
    refine ⟨_, hx, .inl ⟨rfl, ys, .inl rd⟩, G, ρ, R, h1.mono ρ _ _ (fun di ρ1 q1 vi G1 H1 R1 l1 ri => ⟨G1, ρ1, R1, hv.mono ρ1 _ _ (fun dv ρ2 q2 v G2 H2 R2 l2 rv => ?_) q1⟩) q⟩
    split at q2
    · rename_i j zs e2
      obtain ⟨p2, ob, y1, y2, y3, y4⟩ := R2.own i _ e2
      rw [hx] at y1
      cases y1
      cases ri
      cases y4 with
      | lst ra =>
        obtain ⟨R3, l3⟩ := Rel.chg (n := n) R2 e2 hx (.lst (rps_app (rps_app (rps_take j.toNat ra) (.cons rv .nil)) (rps_drop j.toNat ra)))
        exact ⟨_, _, j, v, rfl, rfl, y2, by rw [rps_len ra]; exact q2.1, q2.2.1, q2.2.2.1, a σ G2 _ _ R3 ((l1.trans l2).up.trans l3) q2.2.2.2⟩
    · exact q2.elim
/-! xs + ys, a new list -/
def oAddL : O2 := fun a b k => match a, b with
  | .list xs, .list ys => xs.length + ys.length ≤ sizeLine ∧ k (.list (xs ++ ys))
  | _, _ => False
theorem mo_addL : Mo2 oAddL := fun a b k k' w h => by
  cases a <;> cases b <;> first | exact h.elim | exact ⟨h.1, w _ h.2⟩
theorem opr_addL : OpR X (binaryOp .Add) (rO2 X.K (pF X.K) oAddL) := by
  intro pins s σ H x y v u Q I rx ry h
  obtain ⟨G, a, b, g, hx, hy, q⟩ := h
  cases a <;> cases b <;> first | exact q.elim | skip
  obtain ⟨l, xs, rfl, h1, r1⟩ := vw_list g hx
  obtain ⟨b, ys, rfl, h2, r2⟩ := vw_list g hy
  cases rx
  cases ry
  obtain ⟨z, its, n, rv, e⟩ := (show ObjOk X.prog X.w H s.heap l (.lst xs) from h1.ok I.hok)
  obtain ⟨z2, its2, n2, rv2, e2⟩ := (show ObjOk X.prog X.w H s.heap b (.lst ys) from h2.ok I.hok)
  have l1 := rps_len r1
  have l2 := rps_len r2
  have l3 := rv.length
  have l4 := rv2.length
  have hz := q.1
  refine PySem.P.add_list e e2 ?_ (by rw [List.size_toArray, List.size_toArray]; omega)
  rw [show its.toArray ++ its2.toArray = (its ++ its2).toArray by simp]
  exact ⟨.ref _, _, I.lnew (t' := s.toks) (rv.append rv2) (by rw [List.length_append]; omega), rfl, q.2 _ G _ (same_new1 g I.fresh) (stp_new I.fresh) ⟨_, _, rfl, I.fresh, upd_same, g.free I.fresh, .lst (rps_app r1 r2)⟩⟩
theorem se_addL (hK : X.K = K) (ha : SE K (fE K) X a ma) (hb : SE K (fV K) X b mb) : SE K (fF K) X (.BinOp a .Add b pos) (mOp oAddL ma mb) := by subst hK; exact se_op opr_addL (op2_of mo_addL) embF ha hb
end
end Dl

set_option Elab.async false
set_option linter.all false
set_option maxRecDepth 100000
set_option maxHeartbeats 4000000
/-! Exceptions of own classes over any built-in one, made as values: by places or by names. -/
namespace Ox
open PySem PySem.W PySem.Calls PyProof.Rows PySem.HandSPX
/-- where the class over it finds how it is made, and that nothing refuses a store -/
structure Ov (newId : String) (bm : List Value) : Prop where
  fn : ∃ (Bn inN : String) (bmN : List Value), ExcBaseFacts Bn newId inN bmN ∧ bm.contains (.type Bn) = true
  nA : bm.contains (.type "AttributeError") = false
  nN : bm.contains (.type "NameError") = false
section
variable {prog : Program} {w : World} {A : Around} {E : Value → Shared → Prop} {R : Result → Shared → Prop} {h : Heap} {g : Array GenState} {d : Drawn} {t : Nat} {os : OsState}
variable {nm q : Str} {C N : Addr} {bs bm : List Value} {hdct : Bool} {sn : List Str} {sub : List Value} {ab : Bool} {col : Option Bool} {dd : Option Addr} {k0 k1 k2 k3 k5 : Option Value} {Bn newId inN : String} {bmN : List Value}
theorem chk_new {M : Model} (F : ExcBaseFacts Bn newId inN bmN) (hb : bm.contains (.type Bn) = true) {vs : List Value} {kw : List (Str × Value)} {Q : Unit → Shared → Prop}
    (hC : h.get? C = some (excClassObj nm q C N bs bm hdct sn sub ab col dd k0 k1 k2 k3 k5 newId)) (hq : Q () ⟨h, g, d, t, os⟩) : wpAny M A (checkBuiltinCall newId ⟨.ref C :: vs, kw⟩) Q E ⟨h, g, d, t, os⟩ := by
  have hB : (Value.ref C :: bm).contains (.type Bn) = true := by rw [List.contains_cons, hb, Bool.or_true]
  have hs := F.noStar
  simp only [checkBuiltinCall, F.newKind, F.newSplit, F.newRow]
  repeat (first | refine wpAny_loadPart_at hC ?_ | (refine wpAny_isSubtype_exc hC ?_; rw [hB]) | refine wpAny_staticBase_exc hC ?_ | refine wpAny_madeBy_exc hC ?_ | simp only [bne_self_eq_false, Bool.false_eq_true, if_false] | wp_step)
  exact hq
theorem new_any (O : Ov newId bm) (F : ExcBaseFacts Bn newId inN bmN) (hb : bm.contains (.type Bn) = true) {vs : List Value} {kw : List (Str × Value)}
    (hC : h.get? C = some (excClassObj nm q C N bs bm hdct sn sub ab col dd k0 k1 k2 k3 k5 newId)) (hl : vs.length ≤ sizeLine)
    (hq : R (.ok (.ret (.ref (h.objs.size + 1)))) ⟨(h.push (W.kdv_tup vs)).push (excO C h.objs.size), g, d, t, os⟩) :
    codeAny (model prog w) A (.builtin newId ⟨.ref C :: vs, kw⟩) R ⟨h, g, d, t, os⟩ := by
  have he := F.ends
  have hB : (Value.ref C :: bm).contains (.type Bn) = true := by rw [List.contains_cons, hb, Bool.or_true]
  have hA : (Value.ref C :: bm).contains (.type "AttributeError") = false := by rw [List.contains_cons, O.nA]; rfl
  have hN : (Value.ref C :: bm).contains (.type "NameError") = false := by rw [List.contains_cons, O.nN]; rfl
  refine codeAny_builtinAt F.entry ?_
  unfold Builtin.«BaseException.__new__»
  refine PySem.wpAt_bind ?_
  show PySem.wpAt _ _ _ (stack >>= _) _ _ _
  refine PySem.wpAt_bind (PySem.wpAt_stack fun p below => PySem.wpAt_of_wpAny ?_)
  wp_walk
  refine PySem.wpAt_of_wpAny ?_
  rw [F.owner]
  repeat (first | with_reducible refine wpAny_madeHere_exc F.canon hC ?_ | with_reducible refine wpAny_loadPart_at hC ?_ | (with_reducible refine wpAny_isSubtype_exc hC ?_; first | rw [hB] | rw [hA] | rw [hN]) | wp_step)
  show R _ _
  rw [Heap.size_push]
  exact hq
theorem typ_any (O : Ov newId bm) {vs : List Value} {kw : List (Str × Value)} {fI : Addr} {Q : Fin → Shared → Prop}
    (hC : h.get? C = some (excClassObj nm q C N bs bm hdct sn sub ab col dd k0 k1 k2 k3 k5 newId)) (hl : vs.length ≤ sizeLine)
    (hi : W.Looks (model prog w) h (typeLookup (.ref C) "__init__") (some (.ref fI))) (hb : ∀ self, W.Looks (model prog w) h (bindSpecial (.ref fI) self) (.ref fI, [self]))
    (hq : codeAny (model prog w) A (.call (.ref fI) ⟨.ref (h.objs.size + 1) :: vs, kw⟩)
      (fun r s' => match r with | .ok (.ret v) => v = .none ∧ Q (.done (.ret (.ref (h.objs.size + 1)))) s' | .ok _ => False | .error e => E e s')
      ⟨(h.push (W.kdv_tup vs)).push (excO C h.objs.size), g, d, t, os⟩) :
    wpAny (model prog w) A (Builtin.«type.__call__» ⟨.ref C :: vs, kw⟩) Q E ⟨h, g, d, t, os⟩ := by
  obtain ⟨Bn, inN, bmN, F, hB⟩ := O.fn
  repeat (first | with_reducible refine wpAny_loadPart_at hC ?_ | with_reducible refine wpAny_madeBy_exc hC ?_ | wp_step)
  refine codeAny_call_builtin_code (Code.quiet_builtin _ F.quiet) (chk_new F hB hC ?_)
  refine new_any O F hB hC hl ?_
  show wpAny _ _ _ _ _ _
  have k : ∀ b o, h.get? b = some o → ((h.push (W.kdv_tup vs)).push (excO C h.objs.size)).get? b = some o := fun b o e => Heap.get?_push_of_some _ (Heap.get?_push_of_some _ e)
  have hC1 := k _ _ hC
  have hx : ((h.push (W.kdv_tup vs)).push (excO C h.objs.size)).get? (h.objs.size + 1) = some (excO C h.objs.size) := by heap_get
  have hcC : (Value.ref C :: bm).contains (.ref C) = true := by simp
  have i1 := hi.keeps k
  have b1 := (hb (.ref (h.objs.size + 1))).keeps k
  unfold isInstance
  repeat (first | with_reducible refine wpAny_loadPart_at hx ?_ | (with_reducible refine wpAny_isSubtype_exc hC1 ?_; rw [hcC]) | wp_step)
  show wpAny _ _ (typeLookup (.ref C) _) _ _ _
  refine i1.at ?_
  refine wpAny_holding (wpAny_bind (b1.at ?_))
  refine wpAny_bind (wpAny_call (codeAny_mono hq fun r s' z => ?_))
  rcases r with e | (v | _ | _ | _) <;> first | exact z | exact z.elim | skip
  obtain ⟨rfl, z⟩ := z
  first
    | exact wpAny_pure (wpAny_pure z)
    | (wp_walk; exact z)
theorem call_any (O : Ov newId bm) {vs : List Value} {kw : List (Str × Value)} {fI : Addr}
    (hC : h.get? C = some (excClassObj nm q C N bs bm hdct sn sub ab col dd k0 k1 k2 k3 k5 newId)) (hl : vs.length ≤ sizeLine)
    (hi : W.Looks (model prog w) h (typeLookup (.ref C) "__init__") (some (.ref fI))) (hb : ∀ self, W.Looks (model prog w) h (bindSpecial (.ref fI) self) (.ref fI, [self]))
    (hq : codeAny (model prog w) (A.under (.builtin "type.__call__" ⟨.ref C :: vs, kw⟩)) (.call (.ref fI) ⟨.ref (h.objs.size + 1) :: vs, kw⟩) (W.InitBack (h.objs.size + 1) R)
      ⟨(h.push (W.kdv_tup vs)).push (excO C h.objs.size), g, d, t, os⟩) :
    codeAny (model prog w) A (.call (.ref C) ⟨vs, kw⟩) R ⟨h, g, d, t, os⟩ := by
  have f1 := tc_lookup
  have f2 := tc_bind (.ref C)
  have hT : (⟨h, g, d, t, os⟩ : Shared).TypeIs (.ref C) "type" := ⟨_, hC, rfl⟩
  refine codeAny_of_tree ?_
  show wpAny _ _ (callAny (.ref C) _) _ _ _
  repeat (any_goals (first | assumption | with_reducible refine wpAny_loadPart_at hC ?_ | wp_step))
  refine ⟨rfl, ?_⟩
  refine codeAny_call_builtin_at (Code.quiet_builtin _ (by decide +kernel)) entry_typeCall (wpAny_check_type_call_sub hC (typ_any O hC hl hi hb ?_))
  refine codeAny_mono hq fun r s' z => ?_
  rcases r with e | (v | _ | _ | _) <;> exact z
end
/-! a built-in exception's own beginning -/
structure Ini (B i : String) : Prop where
  slot : Slot B "__init__" i
  entry : entryFor table i = some Builtin.«BaseException.__init__»
  split : splitId i = some (B, "__init__")
  kind : builtinKind i = some .slot
  row : Manifest.signature? i = some ⟨.positional, "*", B, .self, [⟨"args", .varPos, false⟩]⟩
  star : (B != "*") = true
theorem Ini.of {B n i : String} {bm : List Value} (F : ExcBaseFacts B n i bm) : Ini B i := ⟨F.init, F.initEntry, F.initSplit, F.initKind, F.initRow, F.noStar⟩
theorem ini_KeyError : Ini "KeyError" "KeyError.__init__" :=
  ⟨.of (owner := "KeyError") (n := "__init__") (by rw [typeLookup_type, builtinLookup_eq_fast]; kernel_rfl) (by decide +kernel) (by decide +kernel) (by decide +kernel) (by first | exact .inl (by decide +kernel) | exact .inr (by decide +kernel)) (by rw [isSubtype_type]; kernel_rfl),
    entryFor_alias (id' := "BaseException.__init__") (by rw [fastTable_eq_tree]; kernel_rfl) (by first | rfl | decide +kernel) (by decide +kernel) (by rw [fastTable_eq_tree]; kernel_rfl), by kernel_rfl, by kernel_rfl, by kernel_rfl, by decide +kernel⟩
section
variable {prog : Program} {w : World} {A : Around} {E : Value → Shared → Prop} {R : Result → Shared → Prop} {h : Heap} {g : Array GenState} {d : Drawn} {t : Nat} {os : OsState}
variable {nm q : Str} {C N : Addr} {bs bm : List Value} {hdct : Bool} {sn : List Str} {sub : List Value} {ab : Bool} {col : Option Bool} {dd : Option Addr} {k0 k1 k2 k3 k5 : Option Value} {B newId i : String}
theorem chk_ini {M : Model} (F : Ini B i) (hb : bm.contains (.type B) = true) {e : Addr} {oe : Obj} {vs : List Value} {Q : Unit → Shared → Prop}
    (hC : h.get? C = some (excClassObj nm q C N bs bm hdct sn sub ab col dd k0 k1 k2 k3 k5 newId)) (he : h.get? e = some oe) (hc : oe.cls = .ref C) (hq : Q () ⟨h, g, d, t, os⟩) :
    wpAny M A (checkBuiltinCall i ⟨.ref e :: vs, []⟩) Q E ⟨h, g, d, t, os⟩ := by
  have hB : (Value.ref C :: bm).contains (.type B) = true := by rw [List.contains_cons, hb, Bool.or_true]
  have hs := F.star
  simp only [checkBuiltinCall, F.kind, F.split, F.row]
  repeat (first | (with_reducible refine wpAny_loadPart_at he ?_; rw [hc]) | with_reducible refine wpAny_loadPart_at hC ?_ | (with_reducible refine wpAny_isSubtype_exc hC ?_; rw [hB]) | wp_step)
  refine wpAny_onRaise ?_
  rw [show ∀ (a b : String) (n : Nat), Bind.check ⟨.positional, "*", B, .self, [⟨"args", .varPos, false⟩]⟩ a b n (List.map (fun x => x.fst) ({ pos := Value.ref e :: vs } : Args).kw) = pure () from fun a b n => check_star_args _ _ _ _ _ _]
  exact wpAny_pure hq
theorem ini_run (F : Ini B i) (hb : bm.contains (.type B) = true) {e t0 : Addr} {vs : List Value}
    (hC : h.get? C = some (excClassObj nm q C N bs bm hdct sn sub ab col dd k0 k1 k2 k3 k5 newId)) (he : h.get? e = some (excO C t0)) (hl : vs.length ≤ sizeLine)
    (hq : ∀ h' t1, (∀ b o, b ≠ e → h.get? b = some o → h'.get? b = some o) → h'.get? e = some (excO C t1) → R (.ok (.ret .none)) ⟨h', g, d, t, os⟩) :
    codeAny (model prog w) A (.call (.builtin i) ⟨.ref e :: vs, []⟩) R ⟨h, g, d, t, os⟩ := by
  refine codeAny_call_builtin F.slot.plain F.entry (chk_ini F hb hC he rfl ?_)
  wp_walk
  refine hq _ h.objs.size (fun b o hne ho => ?_) ?_
  · rw [Heap.get?_update_other _ _ (Ne.symm hne)]
    exact Heap.get?_push_of_some _ ho
  · rw [Heap.get?_update_self _ (Heap.get?_push_of_some _ he) rfl]
    rfl
end
/-! self.name = v -/
section
variable {prog : Program} {w : World} {A : Around} {E : Value → Shared → Prop} {R : Result → Shared → Prop} {hp : Heap} {g : Array GenState} {d : Drawn} {t : Nat} {os : OsState}
variable {K : W.Frag} {name : Str} {tk : Tok} {v : Value} {x C : Addr} {fv : Array Value} {cd : ClassData} {bm : List Value}
theorem osa_first (X : K.In hp) (hx : hp.get? x = some { cls := .ref C, data := .fields fv }) (hcd : W.clsIn K C = some cd) (hm : cd.mro = .ref C :: bm) (ps : ∀ self, refuseLoop self "__setattr__" bm = pure ()) (ob : bm.contains (.type "object") = true) (hh : cd.hasDict = true)
    (ha : W.findIn K (.ref C) name = some none)
    (hq : ∀ h' tk' dx, (∀ b o, b ≠ x → hp.get? b = some o → h'.get? b = some o) → hp.objs.size ≤ dx → dx ≠ x → h'.get? x = some { cls := .ref C, dict := some dx, data := .fields fv } → h'.Ns1 dx (fun y => if y = name then some v else none) → R (.ok (.ret .none)) ⟨h', g, d, tk', os⟩) :
    codeAny (model prog w) A (.call (.builtin "object.__setattr__") ⟨[.ref x, .str name tk, v], []⟩) R ⟨hp, g, d, t, os⟩ := by
  have J : W.InstAt hp x { cls := .ref C, data := .fields fv } C none := ⟨hx, rfl, rfl, trivial⟩
  have Sf := F.store_object
  have ne : cd.mro.isEmpty = false := by rw [hm]; rfl
  have hob : cd.mro.contains (.type "object") = true := by rw [hm, List.contains_cons, ob, Bool.or_true]
  have nx : x ≠ hp.objs.size := Nat.ne_of_lt (Heap.lt_size hx)
  have isub : W.Looks (model prog w) hp (isInstance (.ref x) (.type "object")) true := J.type.andThen (W.looks_mroIn X (by unfold W.mroIn; rw [hcd, Option.bind_some, if_neg (by rw [ne]; decide), hob]))
  refine codeAny_call_builtin Sf.slot.plain Sf.entry (@W.check_slot (model prog w) _ _ ⟨hp, g, d, t, os⟩ "object.__setattr__" "object" "__setattr__" (.ref x) [.str name tk, v] [] _ Sf.kind Sf.split isub (Sf.args (.ref x) (.str name tk) v) ?_)
  have lm : W.Looks (model prog w) hp (mroOf (.ref C)) cd.mro := (W.looks_clsIn X hcd).andThen .now
  have lt : W.Looks (model prog w) hp (PySem.Builtin.ObjectAttr.storeTaker? none) none := .now
  have lc : W.Looks (model prog w) hp (classData C) cd := W.looks_clsIn X hcd
  rw [W.osa_eq, refuse_eq]
  refine wpAny_bind (wpAny_bind (J.type.at (wpAny_bind (lm.at ?_))))
  rw [show refuseLoop (.ref x) "__setattr__" cd.mro = pure () from by rw [hm, refuseLoop_ref]; exact ps _]
  refine wpAny_pure (wpAny_bind (J.type.at (wpAny_bind ((W.looks_findIn X ha).at (wpAny_bind (lt.at ?_))))))
  show wpAny _ _ (PySem.Builtin.ObjectAttr.storeInOwnDict (.ref x) (.ref C) (.str name tk) name v false) _ _ _
  obtain ⟨nm, bs, mro, ns, qn, hd, sn, sb, ab, col, del⟩ := cd
  dsimp only at hh
  subst hh
  unfold PySem.Builtin.ObjectAttr.storeInOwnDict PySem.Builtin.ObjectAttr.ownDictForStores
  repeat (first | with_reducible refine store_in_new ?_ ?_ | with_reducible refine wpAny_loadPart_at hx ?_ | with_reducible refine lc.at ?_ | wp_step)
  · exact ⟨_, #[], _, (Heap.get?_update_ne _ _ _ _ nx.symm).trans (Heap.get?_push_at rfl rfl), rfl, fun e he => absurd he (by simp), fun _ => rfl⟩
  · intro h' tk' hn hs
    have hx1 : (hp.push { cls := .type "dict", data := .dict #[] }).get? x = some { cls := .ref C, data := .fields fv } := Heap.get?_push_of_some _ hx
    refine hq h' tk' hp.objs.size (fun b o hb ho => ?_) (Nat.le_refl _) nx.symm ?_ hn
    · exact (hs.2 b (Nat.ne_of_lt (Heap.lt_size ho))).trans ((Heap.get?_update_ne _ _ _ _ hb).trans (Heap.get?_push_of_some _ ho))
    · exact (hs.2 x nx).trans (Heap.get?_update_self _ hx1 rfl)
theorem osa_next {dx : Addr} {m0 : Str → Option Value} {nl : List Str} (X : K.In hp) (hx : hp.get? x = some { cls := .ref C, dict := some dx, data := .fields fv }) (hns : hp.Ns1 dx m0) (hw : Within m0 nl) (hz : nl.length ≤ 1000) (hcd : W.clsIn K C = some cd) (hm : cd.mro = .ref C :: bm) (ps : ∀ self, refuseLoop self "__setattr__" bm = pure ()) (ob : bm.contains (.type "object") = true) (hh : cd.hasDict = true)
    (ha : W.findIn K (.ref C) name = some none)
    (hq : ∀ h' tk', (∀ b o, b ≠ dx → hp.get? b = some o → h'.get? b = some o) → h'.Ns1 dx (fun y => if y = name then some v else m0 y) → R (.ok (.ret .none)) ⟨h', g, d, tk', os⟩) :
    codeAny (model prog w) A (.call (.builtin "object.__setattr__") ⟨[.ref x, .str name tk, v], []⟩) R ⟨hp, g, d, t, os⟩ := by
  obtain ⟨oD, esD, epD, hoD, hdD, _⟩ := hns.count hw
  have J : W.InstAt hp x { cls := .ref C, dict := some dx, data := .fields fv } C (some oD) := ⟨hx, rfl, rfl, hoD⟩
  have Sf := F.store_object
  have ne : cd.mro.isEmpty = false := by rw [hm]; rfl
  have hob : cd.mro.contains (.type "object") = true := by rw [hm, List.contains_cons, ob, Bool.or_true]
  have isub : W.Looks (model prog w) hp (isInstance (.ref x) (.type "object")) true := J.type.andThen (W.looks_mroIn X (by unfold W.mroIn; rw [hcd, Option.bind_some, if_neg (by rw [ne]; decide), hob]))
  refine codeAny_call_builtin Sf.slot.plain Sf.entry (@W.check_slot (model prog w) _ _ ⟨hp, g, d, t, os⟩ "object.__setattr__" "object" "__setattr__" (.ref x) [.str name tk, v] [] _ Sf.kind Sf.split isub (Sf.args (.ref x) (.str name tk) v) ?_)
  have lm : W.Looks (model prog w) hp (mroOf (.ref C)) cd.mro := (W.looks_clsIn X hcd).andThen .now
  have lt : W.Looks (model prog w) hp (PySem.Builtin.ObjectAttr.storeTaker? none) none := .now
  have lc : W.Looks (model prog w) hp (classData C) cd := W.looks_clsIn X hcd
  rw [W.osa_eq, refuse_eq]
  refine wpAny_bind (wpAny_bind (J.type.at (wpAny_bind (lm.at ?_))))
  rw [show refuseLoop (.ref x) "__setattr__" cd.mro = pure () from by rw [hm, refuseLoop_ref]; exact ps _]
  refine wpAny_pure (wpAny_bind (J.type.at (wpAny_bind ((W.looks_findIn X ha).at (wpAny_bind (lt.at ?_))))))
  show wpAny _ _ (PySem.Builtin.ObjectAttr.storeInOwnDict (.ref x) (.ref C) (.str name tk) name v false) _ _ _
  obtain ⟨nm, bs, mro, ns, qn, hd, sn, sb, ab, col, del⟩ := cd
  dsimp only at hh
  subst hh
  unfold PySem.Builtin.ObjectAttr.storeInOwnDict PySem.Builtin.ObjectAttr.ownDictForStores
  repeat (first | with_reducible refine PySem.OEX.store_in_old hns hw hz ?_ | with_reducible refine wpAny_loadPart_at hx ?_ | with_reducible refine lc.at ?_ | wp_step)
  intro h' tk' hn hs
  exact hq h' tk' (fun b o hb ho => (hs.2 b hb).trans ho) hn
end
end Ox

set_option Elab.async false
set_option linter.all false
set_option maxRecDepth 100000
set_option maxHeartbeats 4000000
/-! Exceptions of own classes over any built-in one: their beginning, their fields, made as values. -/
namespace Br
open PySem PySem.Spec PyProof.Rows L2
/-- what the written part says of such a class -/
structure OvC (K : PySem.W.Frag) (C : Addr) (bm : List Value) : Prop where
  cls : ∃ (nm q : Str) (N : Addr) (bs : List Value) (sn : List Str) (sub : List Value) (ab : Bool) (col : Option Bool) (dd : Option Addr) (k0 k1 k2 k3 k5 : Option Value) (newId : String), K.lookup C = some (excClassObj nm q C N bs bm true sn sub ab col dd k0 k1 k2 k3 k5 newId) ∧ Ox.Ov newId bm
  ps : ∀ self, refuseLoop self "__setattr__" bm = pure ()
  ob : bm.contains (.type "object") = true
  sa : PySem.W.findIn K (.ref C) "__setattr__" = some (some (.builtin "object.__setattr__"))
  ty : PySem.W.typeIn K (.ref C) = some (.type "type")
  kp : PySem.W.keepIn K (.ref C) = true
theorem OvC.cd {K : PySem.W.Frag} {C : Addr} {bm : List Value} (T : OvC K C bm) : ∃ cd, PySem.W.clsIn K C = some cd ∧ cd.mro = .ref C :: bm ∧ cd.hasDict = true := by
  obtain ⟨nm, q, N, bs, sn, sub, ab, col, dd, k0, k1, k2, k3, k5, newId, hC, _⟩ := T.cls
  exact ⟨{ name := nm, bases := bs, mro := .ref C :: bm, ns := N, qualname := q, hasDict := true, slotNames := sn, subclasses := sub, abstract := ab, collection := col, hasDel := false }, by unfold PySem.W.clsIn; rw [hC] <;> rfl, rfl, rfl⟩
section
variable {X : Cx} {pins : List (Addr × Obj)} {σ : L2.St} {H : Hp} {s : Shared} {a C dx : Addr} {bm : List Value} {f : Str} {y : V} {u : Value} {fs : List (Str × V)} {Q : Unit → Shared → Prop} {E : Value → Shared → Prop} {A : Around}
/-- the first field -/
theorem ov_first (T : OvC X.K C bm) (I : Inv X pins σ H s) (e : H a = some (exo a C none)) (hno : PySem.W.findIn X.K (.ref C) f = some none) (ry : RelV y u)
    (h : ∀ dx s', H dx = none → dx ≠ a → Inv X pins σ (upd (upd H dx (exd dx [(f, y)])) a (exo a C (some dx))) s' → Q () s') : wpAny (model X.prog X.w) A (setAttr (.ref a) f u) Q E s := by
  obtain ⟨cd, hcl, hm, hh⟩ := T.cd
  obtain ⟨t1, ho⟩ := exo_at I.hok e
  obtain ⟨hp, g, d, t, os⟩ := s
  refine PySem.W.set_plain I.kIn (ox := { cls := .ref C, dict := none, data := .fields #[.ref t1, .none, .none, .none, .bool false, .none] }) (od := none) ⟨ho, rfl, rfl, trivial⟩ T.sa ?_
  refine Ox.osa_first I.kIn ho hcl hm T.ps T.ob hh hno (fun h1 tk1 dx kk dn dne hx hn => ?_)
  have nod : H dx = none := I.hok.fresh dn
  have ned : ∀ {b : Addr} {o : Obj}, hp.get? b = some o → b ≠ dx := fun {b o} z => Nat.ne_of_lt (Nat.lt_of_lt_of_le (Heap.lt_size z) dn)
  have nea : ∀ {b : Addr}, H b = none → b ≠ a := fun {b} n z => by
    rw [z, e] at n
    cases n
  have U : Un X.fs [] H (upd (upd H dx (exd dx [(f, y)])) a (exo a C (some dx))) hp h1 := {
    keep := fun b o z n _ _ => kk b o (nea n) z
    slot := fun b o z n _ _ => ⟨o.slots, kk b o (nea n) z⟩
    free := fun b o z n _ => by rw [upd_ne (nea n), upd_ne (ned z)]; exact n
    there := fun b o z _ => by
      by_cases hb : b = a
      · exact ⟨_, by rw [hb]; exact hx⟩
      · exact ⟨o, kk b o hb z⟩
    tups := fun b xs z => by rw [upd_ne (at_ne e z exo_tup), upd_ne (ne_of_none z nod)]; exact z
    frzs := fun b o v z => by rw [upd_ne (at_ne e z exo_frz), upd_ne (ne_of_none z nod)]; exact z
    tbls := fun b ps z => ⟨#[], by rw [upd_ne (at_ne e z exo_tbl), upd_ne (ne_of_none z nod), z]; simp⟩ }
  refine h dx _ nod dne (I.un (t' := tk1) U fun b o z => ?_)
  by_cases hb : b = a
  · subst hb
    rw [upd_same] at z
    cases z
    exact exo_ok hx
  rw [upd_ne hb] at z
  by_cases hd : b = dx
  · subst hd
    rw [upd_same] at z
    cases z
    exact exd_ok hn (relO_put (fs := []) ry fun g => True.intro)
  rw [upd_ne hd] at z
  refine (I.hok b o z).stay (fun c v hc y => kk c v ?_ y) (fun c hc => by rw [upd_ne (at_ne e hc exo_own), upd_ne (ne_of_none hc nod)]; exact hc) (fun c xs hc => by rw [upd_ne (at_ne e hc exo_tup), upd_ne (ne_of_none hc nod)]; exact hc)
  rcases hc with hc | hc
  · rw [hc]; exact hb
  · exact at_ne e hc exo_own
/-- a further one -/
theorem ov_next (T : OvC X.K C bm) (I : Inv X pins σ H s) (e : H a = some (exo a C (some dx))) (ed : H dx = some (exd dx fs)) (hl : fs.length ≤ 900) (hno : PySem.W.findIn X.K (.ref C) f = some none) (ry : RelV y u)
    (h : ∀ s', Inv X pins σ (upd H dx (exd dx ((f, y) :: fs))) s' → Q () s') : wpAny (model X.prog X.w) A (setAttr (.ref a) f u) Q E s := by
  obtain ⟨cd, hcl, hm, hh⟩ := T.cd
  obtain ⟨t1, ho⟩ := exo_at I.hok e
  obtain ⟨mA, hns, rel⟩ := exd_at I.hok ed
  have hw := within_of rel
  obtain ⟨hp, g, d, t, os⟩ := s
  obtain ⟨oD, _, _, hoD, _, _⟩ := hns.count hw
  refine PySem.W.set_plain I.kIn (ox := { cls := .ref C, dict := some dx, data := .fields #[.ref t1, .none, .none, .none, .bool false, .none] }) (od := some oD) ⟨ho, rfl, rfl, hoD⟩ T.sa ?_
  refine Ox.osa_next I.kIn ho hns hw (by rw [List.length_map]; omega) hcl hm T.ps T.ob hh hno (fun h1 tk1 kk hn => ?_)
  obtain ⟨o', e1, e2, e3, e4⟩ := hn
  exact h _ (I.write (t' := tk1) (x := dx) (e := dx) (o := exd dx ((f, y) :: fs)) (by rw [ed]; exact True.intro) (.inl rfl) kk ⟨o', e3⟩ (exd_ok ⟨o', e1, e2, e3, e4⟩ (relO_put ry rel)))
/-- B.__init__(self, ..) -/
theorem ov_init {B i : String} {us : List Value} {Q : Value → Shared → Prop} (F : Ox.Ini B i) (hB : bm.contains (.type B) = true) (T : OvC X.K C bm) (I : Inv X pins σ H s) (e : H a = some (exo a C none)) (hl : us.length ≤ sizeLine) (h : ∀ s', Inv X pins σ H s' → Q .none s') :
    wpAny (model X.prog X.w) A (call (.builtin i) (.ref a :: us)) Q E s := by
  obtain ⟨nm, q, N, bs, sn, sub, ab, col, dd, k0, k1, k2, k3, k5, newId, hC, _⟩ := T.cls
  obtain ⟨t1, ho⟩ := exo_at I.hok e
  obtain ⟨hp, g, d, t, os⟩ := s
  refine wpAny_call (Ox.ini_run F hB (I.kIn _ _ hC) ho hl fun h1 t2 kk hx => ?_)
  have J := I.write (t' := t) (x := a) (e := a) (o := exo a C none) (by rw [e]; exact True.intro) (.inl rfl) kk ⟨_, hx⟩ (exo_ok hx)
  have eu : upd H a (exo a C none) = H := by
    funext b
    by_cases hb : b = a
    · rw [hb, upd_same, e]
    · rw [upd_ne hb]
  rw [eu] at J
  exact h _ J
end
/-! readings and rules -/
/-- B.__init__(self, ..) -/
def tBi (K : PySem.W.Frag) (B : String) (ta : TA) : TE := fun σ H Q => ta σ H fun vs H1 => ∃ (a C : Addr) (bm : List Value) (ws : List V), vs = .ref a :: ws ∧ ws.length ≤ 1000 ∧ OvC K C bm ∧ bm.contains (.type B) = true ∧ H1 a = some (exo a C none) ∧ Q .non H1
/-- self.f = e -/
def tOs (K : PySem.W.Frag) (f : Str) (to te : TE) : TS := fun D σ H => te σ H fun y H1 => to σ H1 fun x H2 => ∃ (a C : Addr) (bm : List Value), x = .ref a ∧ OvC K C bm ∧ PySem.W.findIn K (.ref C) f = some none ∧
  ((H2 a = some (exo a C none) ∧ ∀ dx, H2 dx = none → dx ≠ a → D.nx σ (upd (upd H2 dx (exd dx [(f, y)])) a (exo a C (some dx)))) ∨
    ∃ (dx : Addr) (fs : List (Str × V)), H2 a = some (exo a C (some dx)) ∧ H2 dx = some (exd dx fs) ∧ fs.length ≤ 900 ∧ D.nx σ (upd H2 dx (exd dx ((f, y) :: fs))))
/-- C(..) as a value, C's own __init__ keeping sp -/
def tMkV (C : Addr) (sp : Sp) (π : List V → List V) (ta : TA) : TE := fun σ H Q => ta σ H fun vs H1 => vs.length ≤ 1000 ∧ ∀ a, H1 a = none → sp (.ref a :: π vs) (upd H1 a (exo a C none)) (fun v H2 => v = .non ∧ Q (.ref a) H2) (fun _ _ _ => False)
section
variable {X : Cx} {o e : Expr} {es : List Expr} {to te : TE} {ta : TA} {f : Str} {p p' p1 p2 pos : Pos}
theorem pe_biinit {B i : String} {pl : Sem Bool} (hg : Gl X B) (hm : X.mg B = none) (hbt : bootBuiltins B = some (.type B)) (hty : typeOf (.type B) = pure (.type "type")) (hst : Manifest.isStub B = false) (F : Ox.Ini B i) (vV : PySem.W.findCls X.K (.type B) (.type "type") "__init__" = some (.val (.builtin i))) (ha : PA X (e :: es) ta) (hn : (B : Str) ≠ "__name__") (hdb : ((B : Str) == ("__debug__" : Str)) = false) (hh : PySem.W.handedIn (.builtin i) = true)
    (hc : eval (.Call (.Attribute (.Name B p1) "__init__" p2) (e :: es) [] pos) X.env = (do
      let ov ← eval (.Name B p1) X.env
      standAt p2.atName
      let (f, first) ← holding [ov] (getMethod ov "__init__" pl)
      callWith pos f first (backTo pos (starEach (e :: es) X.env)) (backToKw pos (keywordEach [] X.env))) := by rfl)
    (he : starEach (e :: es) X.env = (false, eval e X.env) :: starEach es X.env := by rfl) (hpl : (backTo pos (starEach es X.env)).any (·.1) = false := by rfl) :
    PE X (.Call (.Attribute (.Name B p1) "__init__" p2) (e :: es) [] pos) (tBi X.K B ta) := by
  refine ⟨fun pins s σ H Q I h => ?_⟩
  refine PySem.W.methodCall_KW (ld_blt I hg hm hbt ?_ hn hdb) hc
  obtain ⟨m, fr⟩ := I.fr
  refine PySem.W.method_type fr I.ok.mod.kin hty hst vV hh ?_
  show wpAny _ _ (callWith pos (Value.builtin i) [] (backTo pos (starEach (e :: es) X.env)) []) _ _ _
  refine PyProof.Rows.callWith_method1 (thn (ha.run pos pins _ σ H _ (I.tok _) h) fun us s1 ⟨vs, H1, I1, r1, a, C, bm, ws, ev, hl, T, hB, ea, q⟩ => ?_) he hpl
  subst ev
  cases r1 with
  | @cons _ u0 _ ur ra rw' =>
    obtain rfl : u0 = Value.ref a := ra
    have hlen : ur.length ≤ sizeLine := by
      rw [← Paired.length rw', sizeLine_eq]
      omega
    exact ov_init F hB T I1 ea hlen fun s' J => ⟨.non, H1, J, rfl, q⟩
theorem ps_os (ho : PE X o to) (he : PE X e te) (hs : swapsWith e (some (.Attribute o f p')) pos.line X.env = pure false := by rfl) : PS X (.Assign [.Attribute o f p'] e pos) (tOs X.K f to te) := by
  refine ⟨fun pins s σ H D I h => ?_⟩
  refine plainObj_wpAny_Assign_Attribute (thn (he.run pins s σ H _ I h) fun v s1 ⟨y, H1, I1, r1, q1⟩ => thn (ho.run pins s1 σ H1 _ I1 q1) fun u s2 ⟨x, H2, I2, r2, a, C, bm, ex, T, hno, q⟩ => ?_) hs
  subst ex
  obtain rfl : u = Value.ref a := r2
  rcases q with ⟨ea, q⟩ | ⟨dx, fs, ea, ed, hl, q⟩
  · exact ov_first T I2 ea hno r1 fun dx s' n ne J => ⟨σ, _, J, q dx n ne⟩
  · exact ov_next T I2 ea ed hl hno r1 fun s' J => ⟨σ, _, J, q⟩
/-- the making itself, whatever is handed and how it is bound -/
theorem mk_run {pins : List (Addr × Obj)} {σ : L2.St} {H : Hp} {s : Shared} {Q : VK} {C fI : Addr} {bm : List Value} {k : Nat} {fd : FuncData} {ps : List Str} {sp : Sp} {us ws : List Value} {kw : List (Str × Value)} {vs : List V} (T : OvC X.K C bm) (iC : PySem.W.findIn X.K (.ref C) "__init__" = some (some (.ref fI))) (tI : PySem.W.typeIn X.K (.ref fI) = some (.type "function"))
    (Fn : FnG X.prog X.w X.K X.mg X.base CX0 k fI fd ps sp) (hG : Bare X.A) (hr : Room (k + 1) X.A) (I : Inv X pins σ H s) (hl : us.length ≤ sizeLine) (r : Vals vs ws) (hb : ∀ (s' : Shared) (a : Addr), BindsTo s' fd ⟨.ref a :: us, kw⟩ (ps.zip (.ref a :: ws)))
    (q : ∀ a, H a = none → sp (.ref a :: vs) (upd H a (exo a C none)) (fun v H2 => v = .non ∧ Q (.ref a) H2) (fun _ _ _ => False)) : wpAny (model X.prog X.w) X.A (call (.ref C) us kw) (EP X pins σ Q) X.xe s := by
  obtain ⟨nm, qn, N, bs, sn, sub, ab, col, dd, k0, k1, k2, k3, k5, newId, hC, O⟩ := T.cls
  obtain ⟨hp, g, dr, tk, os⟩ := s
  have hsz : hp.objs.size ≤ hp.objs.size + 1 := Nat.le_succ _
  have hn : H (hp.objs.size + 1) = none := I.hok.fresh hsz
  have kk : ∀ b o, hp.get? b = some o → ((hp.push (PySem.W.kdv_tup us)).push (PySem.HandSPX.excO C hp.objs.size)).get? b = some o := fun b o e => Heap.get?_push_of_some _ (Heap.get?_push_of_some _ e)
  have hx : ((hp.push (PySem.W.kdv_tup us)).push (PySem.HandSPX.excO C hp.objs.size)).get? (hp.objs.size + 1) = some (PySem.HandSPX.excO C hp.objs.size) := by heap_get
  have I2 : Inv X pins σ (upd H (hp.objs.size + 1) (exo (hp.objs.size + 1) C none)) ⟨(hp.push (PySem.W.kdv_tup us)).push (PySem.HandSPX.excO C hp.objs.size), g, dr, tk, os⟩ := I.laid (t' := tk) (a := hp.objs.size + 1) (o := exo (hp.objs.size + 1) C none) kk hsz (exo_ok hx)
  have r2 : Vals (V.ref (hp.objs.size + 1) :: vs) (Value.ref (hp.objs.size + 1) :: ws) := .cons rfl r
  refine wpAny_call (Ox.call_any O (I.kIn _ _ hC) hl (PySem.W.looks_findIn I.kIn iC) (fun self => PySem.W.bind_fn I.kIn self tI) ?_)
  refine codeAny_mono (Fn.runs _ X.stack _ _ ⟨Value.ref (hp.objs.size + 1) :: us, kw⟩ _ _ _ _ hG (hr.make C us kw) (I2.env0.make C us kw) (hb _ _) r2 (q _ hn)) fun res s' hq => ?_
  cases res with
  | error er => exact pass0 pins σ _ _ er s' I2 hq
  | ok fl =>
    cases fl with
    | ret u =>
      obtain ⟨v, H2, os2, bare2, un2, hok2, rv, ev, q2⟩ := hq
      subst ev
      exact ⟨rv, .ref _, H2, I2.call' (ch := []) os2 un2 hok2 bare2 (fun b w => absurd w List.not_mem_nil), rfl, q2⟩
    | next => exact False.elim hq
    | brk => exact False.elim hq
    | cont => exact False.elim hq
end
end Br

set_option Elab.async false
set_option linter.all false
set_option maxRecDepth 100000
set_option maxHeartbeats 4000000
/-! Exceptions of own classes as data: made by places and by names, asked by isinstance, their fields read. -/
namespace Br
open PySem PySem.Spec PyProof.Rows L2
/-- what an f-string tells of data -/
def txtOf : PyData → Str
  | .str y => y
  | d => d.shown
def fmtOk (d : PyData) : Prop := d.showable = true ∧ d.hasDict = false ∧ d.depth ≤ 50 ∧ d.shown.length ≤ sizeLine ∧ (txtOf d).length ≤ 1000
def FmtV (K : PySem.W.Frag) (H : Hp) (x : V) : Prop := ∃ d : PyData, Dp K H x d ∧ fmtOk d
def tFmtD (K : PySem.W.Frag) (te : TE) : TE := fun σ H Q => te σ H fun x H1 => ∃ d : PyData, Dp K H1 x d ∧ fmtOk d ∧ Q (.str (txtOf d)) H1
section
variable {X : Cx} {e : Expr} {te : TE} {pos : Pos} {f : Str}
theorem pe_fmtD (hu : X.A.units + 64 < cLine) (hG : Bare X.A) (he : PE X e te) : PE X (.FormattedValue e (-1) none pos) (tFmtD X.K te) := by
  constructor
  intro pins s σ H Q I h
  refine wpAny_FormattedValue_plain (thn (he.run pins s σ H _ I h) fun v s1 hv => ?_)
  obtain ⟨x, H1, I1, r1, d, dp, ⟨h1, h2, h3, h4, h5⟩, q⟩ := hv
  have big : 1000 ≤ sizeLine := by decide
  cases d with
  | none =>
    cases dp
    cases r1
    exact wpAny_formatField_none ⟨.str "None", H1, I1.tok _, ⟨_, rfl⟩, q⟩
  | bool b =>
    cases dp
    cases r1
    cases b
    · exact wpAny_formatField_bool ⟨.str "False", H1, I1.tok _, ⟨_, rfl⟩, q⟩
    · exact wpAny_formatField_bool ⟨.str "True", H1, I1.tok _, ⟨_, rfl⟩, q⟩
  | int i =>
    cases dp
    obtain ⟨t, rfl⟩ := r1
    exact wpAny_formatField_int (of_decide_eq_true h1) ⟨.str (toString i), H1, I1.tok _, ⟨_, rfl⟩, q⟩
  | str y =>
    cases dp
    obtain ⟨t, rfl⟩ := r1
    exact wpAny_formatField_str ⟨.str y, H1, I1, ⟨t, rfl⟩, q⟩ ⟨.str y, H1, I1.tok _, ⟨_, rfl⟩, q⟩ (Nat.le_trans h5 big)
  | list ds =>
    obtain ⟨as, hR⟩ := Dp.reads I1 _ _ _ dp r1
    cases dp
    cases r1
    exact formatField_of_reads hR h1 (fun z => by rw [h2] at z; cases z) hG (by omega) (fun _ _ e => e) (fun h' u tk hk => ⟨.str _, H1, I1.kept hk, ⟨_, rfl⟩, q⟩) h4
  | tuple ds =>
    obtain ⟨as, hR⟩ := Dp.reads I1 _ _ _ dp r1
    cases dp
    cases r1
    exact formatField_of_reads hR h1 (fun z => by rw [h2] at z; cases z) hG (by omega) (fun _ _ e => e) (fun h' u tk hk => ⟨.str _, H1, I1.kept hk, ⟨_, rfl⟩, q⟩) h4
  | dict ds => cases h2
/-- an exception made here -/
def Exo (H : Hp) (a D : Addr) : Prop := H a = some (exo a D none) ∨ ∃ dd fs, H a = some (exo a D (some dd)) ∧ H dd = some (exd dd fs)
theorem exo_inst {pins : List (Addr × Obj)} {σ : L2.St} {H : Hp} {s : Shared} {a D : Addr} (I : Inv X pins σ H s) (h : Exo H a D) : ∃ ox od, PySem.W.InstAt s.heap a ox D od := by
  rcases h with h | ⟨dd, fs, h, hd⟩
  · obtain ⟨t, q⟩ := exo_at I.hok h
    exact ⟨_, none, q, rfl, rfl, trivial⟩
  · obtain ⟨t, q⟩ := exo_at I.hok h
    obtain ⟨mA, hns, hr⟩ := exd_at I.hok hd
    obtain ⟨od, ho, hl⟩ := lookIn_ns hns
    exact ⟨_, some od, q, rfl, rfl, ho⟩
theorem call_isO : CallR X (.builtin "isinstance") (fun xs H Q => ∃ (a D : Addr) (c : V) (cv : Value) (b : Bool), xs = [.ref a, c] ∧ Exo H a D ∧ ExcC X.K D ∧ ClsV c cv ∧ PySem.W.kitOne X.K (.ref D) cv = some b ∧ Q (.bl b) H) := by
  intro pins s σ H xs us Q I r h
  obtain ⟨a, D, c, cv, b, rfl, ha, C, k, e, q⟩ := h
  obtain ⟨u1, u2, rfl, r1, r2⟩ := vals2 r
  cases (show u1 = Value.ref a from r1)
  cases k.eq r2
  obtain ⟨oe, od, J⟩ := exo_inst I ha
  exact PySem.W.kia_one (kit_exc C) I.kIn J e (fun z => nomatch z) fun tk => ⟨.bl b, H, I.tok tk, rfl, q⟩
/-- e.f of an exception made here -/
def tXo (K : PySem.W.Frag) (f : Str) (te : TE) : TE := fun σ H Q => te σ H fun x H1 => ∃ (a D dd : Addr) (fs : List (Str × V)) (v : V), x = .ref a ∧ H1 a = some (exo a D (some dd)) ∧ H1 dd = some (exd dd fs) ∧ XfC K D ∧ PySem.W.findIn K (.ref D) f = some none ∧ fs.lookup f = some v ∧ Q v H1
theorem pe_xo (he : PE X e te) (hb : attributeBase e f X.env (eval e X.env) = eval e X.env := by rfl) : PE X (.Attribute e f pos) (tXo X.K f te) := by
  constructor
  intro pins s σ H Q I h
  refine attr_of hb (thn (he.run pins s σ H _ I h) fun u s1 hh => ?_)
  obtain ⟨x, H1, I1, rx, a, D, dd, fs, v, ex, ha, hd, T, hno, l, q⟩ := hh
  subst ex
  cases (show u = Value.ref a from rx)
  obtain ⟨t, q1⟩ := exo_at I1.hok ha
  obtain ⟨mA, hns, hr⟩ := exd_at I1.hok hd
  obtain ⟨od, ho, hl⟩ := lookIn_ns hns
  have J : PySem.W.InstAt s1.heap a _ D (some od) := ⟨q1, rfl, rfl, ho⟩
  obtain ⟨u, hu, ru⟩ := RelO.some_of (v := v) (o := mA f) (by rw [← l]; exact hr f)
  exact HandSPX.exc_get I1.kIn J T.ga T.gg T.exC (PySem.W.findObj_own T.hdC hno rfl (by rw [hl, hu])) (handed_of ru) ⟨v, H1, I1.tok _, ru, q⟩
end
/-- an own class's __init__: it keeps what it is handed as its fields -/
def spE (K : PySem.W.Frag) (C : Addr) (ps : List Str) : Sp := fun vs H Q _ => ∃ (a : Addr) (xs : List V), vs = .ref a :: xs ∧ xs.length = ps.length ∧ (∀ x ∈ xs, FmtV K H x) ∧ H a = some (exo a C none) ∧
  ((ps = [] ∧ Q .non H) ∨ (ps ≠ [] ∧ ∀ dx, H dx = none → dx ≠ a → Q .non (upd (upd H dx (exd dx (ps.reverse.zip xs.reverse))) a (exo a C (some dx)))))
end Br
namespace Dl
open PySem PySem.Spec PyProof.Rows L2 Br
/-- a class of exceptions and how it is made -/
structure ClsOk (P : Program) (w : World) (K : PySem.W.Frag) (mg : Str → Option Value) (base : Heap) (x : Str) (ps : List Str) (C : Addr) (fd : FuncData) : Prop where
  mC : mg x = some (.ref C)
  nC : PySem.W.nsIn K mainGlobals x = some (some (.ref C))
  ov : ∃ bm, OvC K C bm
  kp : PySem.W.keepIn K (.ref C) = true
  ini : ∃ fI, PySem.W.findIn K (.ref C) "__init__" = some (some (.ref fI)) ∧ PySem.W.typeIn K (.ref fI) = some (.type "function") ∧ FnG P w K mg base CX0 1 fI fd (("self" : Str) :: ps) (spE K C ps)
  bi : ∀ (s : Shared) (a : Addr) (ws : List Value), ws.length = ps.length → BindsTo s fd ⟨.ref a :: ws, []⟩ ((("self" : Str) :: ps).zip (.ref a :: ws))
/-- what is asked of a class of exceptions: its fields, its kin -/
structure ClsA (K : PySem.W.Frag) (x : Str) (ps : List Str) (C : Addr) : Prop where
  nC : PySem.W.nsIn K mainGlobals x = some (some (.ref C))
  xf : XfC K C
  ec : ExcC K C
  nf : ∀ f ∈ ps, PySem.W.findIn K (.ref C) f = some none
def okF (d : D) : Prop := fmtOk (toPy d)
def mMk (x : Str) (ps : List Str) (ma : MA) : ME := fun ρ k => ma ρ fun ds ρ1 => ds.length = ps.length ∧ (∀ d ∈ ds, okF d) ∧ k (.exc x ps.reverse ds.reverse) ρ1
def mMkK (x : Str) (ps : List Str) (is : List Nat) (ma : MA) : ME := fun ρ k => ma ρ fun ds ρ1 => ds.length = is.length ∧ (∀ d ∈ perm is ds, okF d) ∧ k (.exc x ps.reverse (perm is ds).reverse) ρ1
theorem rps_mem {K : PySem.W.Frag} {G : Hp} : ∀ {vs : List V} {ds : List D}, RpAll K G vs ds → ∀ v ∈ vs, ∃ d ∈ ds, Rp K G v d
  | _, _, .cons x r, v, h => by
    rcases List.mem_cons.mp h with rfl | h
    · exact ⟨_, List.mem_cons_self, x⟩
    · obtain ⟨d, hd, q⟩ := rps_mem r v h
      exact ⟨d, List.mem_cons_of_mem _ hd, q⟩
section
variable {K : PySem.W.Frag} {σ : L2.St} {G H G1 H1 : Hp} {ρ ρ1 : Cs} {x : Str} {ps : List Str} {C : Addr} {zs : List V} {ds : List D} {Q : VK} {E : XK}
/-- the end of a making -/
theorem mk_end {φ : Fl} (nC : PySem.W.nsIn K mainGlobals x = some (some (.ref C))) (R1 : Rel K σ G1 H1 ρ1) (l1 : Lk 0 σ G H ρ σ G1 H1 ρ1) (rs : RpAll K G1 zs ds) (hl : ds.length = ps.length) (hf : ∀ d ∈ ds, okF d)
    (q : ∀ v G' H', Rel K σ G' H' ρ1 → Lk 0 σ G H ρ σ G' H' ρ1 → Rp K G' v (.exc x ps.reverse ds.reverse) → Q v H') (a : Addr) (na : H1 a = none) :
    spE K C ps (.ref a :: zs) (upd H1 a (exo a C none)) (fun v H2 => v = .non ∧ Q (.ref a) H2) E := by
  have s1 : Same G1 (upd H1 a (exo a C none)) := same_new1 R1.gh na
  refine ⟨a, zs, rfl, by rw [rps_len rs, hl], fun v hv => ?_, upd_same, ?_⟩
  · obtain ⟨d, hd, r⟩ := rps_mem rs v hv
    exact ⟨toPy d, rp_nd' d v (rp_same s1 r) (hf d hd).2.1, hf d hd⟩
  cases ps with
  | nil =>
    left
    refine ⟨rfl, rfl, ?_⟩
    have st := stp_newG (o := exo a C none) R1.gh na
    cases ds with
    | nil => exact q _ (upd G1 a (exo a C none)) _ (R1.pure st (same_new2 R1.gh na)) (l1.trans (.pure st)) (.exn nC upd_same)
    | cons _ _ => cases hl
  | cons p ps =>
    right
    refine ⟨by simp, fun dx nd ne => ⟨rfl, ?_⟩⟩
    rw [upd_ne ne] at nd
    have fs := (p :: ps).reverse.zip zs.reverse
    have e : upd (upd (upd H1 a (exo a C none)) dx (exd dx ((p :: ps).reverse.zip zs.reverse))) a (exo a C (some dx)) = upd (upd H1 dx (exd dx ((p :: ps).reverse.zip zs.reverse))) a (exo a C (some dx)) := by
      funext b
      by_cases hb : b = a
      · rw [hb, upd_same, upd_same]
      · rw [upd_ne hb, upd_ne hb]
        by_cases hd : b = dx
        · rw [hd, upd_same, upd_same]
        · rw [upd_ne hd, upd_ne hd, upd_ne hb]
    rw [e]
    have st := stp_newG (o := exd dx ((p :: ps).reverse.zip zs.reverse)) R1.gh nd
    have g2 := same_new2 (o := exd dx ((p :: ps).reverse.zip zs.reverse)) R1.gh nd
    have na2 : (upd H1 dx (exd dx ((p :: ps).reverse.zip zs.reverse))) a = none := by rw [upd_ne (Ne.symm ne)]; exact na
    have st2 := stp_newG (o := exo a C (some dx)) g2 na2
    have R2 := R1.pure st g2
    refine q _ (upd (upd G1 dx (exd dx ((p :: ps).reverse.zip zs.reverse))) a (exo a C (some dx))) _ (R2.pure st2 (same_new2 g2 na2)) ((l1.trans (.pure st)).trans (.pure st2)) (.exf (vs := zs.reverse) nC upd_same ?_ ?_ (rps_rev ?_))
    · rw [upd_ne ne, upd_same]
    · rw [List.length_reverse, List.length_reverse, rps_len rs, hl]
    · exact rps_same (st.gg.trans st2.gg) rs
end
section
variable {X : Cx} {K : PySem.W.Frag} {x : Str} {ps : List Str} {C : Addr} {fd : FuncData} {k : Nat} {p pos : Pos} {e : Expr} {es : List Expr} {ma : MA}
theorem mo_mk (h : Mo ma) : Mo (mMk x ps ma) := fun ρ k k' w => h ρ _ _ fun ds ρ1 q => ⟨q.1, q.2.1, w _ _ q.2.2⟩
/-- C() -/
theorem se_mk0 (O : ClsOk X.prog X.w K X.mg X.base x [] C fd) (hK : X.K = K) (hG : Bare X.A) (hr : Room k X.A) (hk : 2 ≤ k) (hg : Gl X x) (hdb : (x == ("__debug__" : Str)) = false := by decide) : SE K (fE K) X (.Call (.Name x p) [] [] pos) (mMk x [] aNil) := by
  subst hK
  refine ⟨mo_mk (sa_nil (K := X.K) (X := X)).mono, ⟨fun pins s σ H Q I ⟨G, ρ, R, q⟩ => ?_⟩⟩
  obtain ⟨bm, T⟩ := O.ov
  obtain ⟨fI, iC, tI, Fn⟩ := O.ini
  obtain ⟨hl, hf, q⟩ := q
  refine wpAny_Call_Name_kw (ld_glob I hg O.mC ?_ hdb)
  refine PySem.W.callWith_K0 I.kIn O.kp ?_
  refine mk_run (k := 1) (us := []) (ws := []) (kw := []) (vs := []) T iC tI Fn hG (hr.mono hk) I (Nat.zero_le _) .nil (fun s' a => O.bi s' a [] rfl) fun a na => ?_
  exact mk_end (φ := fE X.K) O.nC R .refl .nil hl hf (fun v G' H' R' l r => q v G' H' R' l r) a na
/-- C(e, ..) -/
theorem se_mk (O : ClsOk X.prog X.w K X.mg X.base x ps C fd) (hK : X.K = K) (hG : Bare X.A) (hr : Room k X.A) (hk : 2 ≤ k) (hg : Gl X x) (ha : SA K X (e :: es) ma) (hps : ps.length ≤ 1000 := by decide) (hdb : (x == ("__debug__" : Str)) = false := by decide)
    (he : starEach (e :: es) X.env = (false, eval e X.env) :: starEach es X.env := by rfl) (hpl : (backTo pos (starEach es X.env)).any (·.1) = false := by rfl) : SE K (fE K) X (.Call (.Name x p) (e :: es) [] pos) (mMk x ps ma) := by
  subst hK
  refine ⟨mo_mk ha.mono, ⟨fun pins s σ H Q I ⟨G, ρ, R, q⟩ => ?_⟩⟩
  obtain ⟨bm, T⟩ := O.ov
  obtain ⟨fI, iC, tI, Fn⟩ := O.ini
  have ht : tA X.K ma σ H (fun vs H2 => ∃ G2 ds ρ2, Rel X.K σ G2 H2 ρ2 ∧ Lk 0 σ G H ρ σ G2 H2 ρ2 ∧ RpAll X.K G2 vs ds ∧ ds.length = ps.length ∧ (∀ d ∈ ds, okF d) ∧ ∀ v G' H', Rel X.K σ G' H' ρ2 → Lk 0 σ G H ρ σ G' H' ρ2 → Rp X.K G' v (.exc x ps.reverse ds.reverse) → Q v H') :=
    ⟨G, ρ, R, ha.mono ρ _ _ (fun ds ρ1 q vs G2 H2 R2 l2 rs => ⟨G2, ds, ρ1, R2, l2, rs, q.1, q.2.1, fun v G' H' R' l' r' => q.2.2 v G' H' R' l' r'⟩) q⟩
  refine wpAny_Call_Name_kw (ld_glob I hg O.mC ?_ hdb)
  refine PySem.W.callWith_K (h₀ := X.base) I.ok.mod.kin O.kp (thn (ha.pa.run pos pins s σ H _ I ht) fun us s2 ⟨vs, H2, I2, r, G2, ds, ρ2, R2, l2, rs, hl, hf, q⟩ => ⟨I2.kIn, ?_⟩) he hpl
  have hul : us.length = ps.length := by rw [← r.length, rps_len rs, hl]
  refine mk_run (k := 1) (us := [] ++ us) (ws := us) (kw := []) T iC tI Fn hG (hr.mono hk) I2 ?_ r (fun s' a => O.bi s' a us hul) fun a na => ?_
  · show us.length ≤ sizeLine
    rw [hul, sizeLine_eq]
    omega
  · exact mk_end (φ := fE X.K) O.nC R2 l2 rs hl hf q a na
/-- C(f = e, ..) -/
theorem se_mkK {ks : List Str} {is : List Nat} {kws : List Keyword} (O : ClsOk X.prog X.w K X.mg X.base x ps C fd) (hb : ∀ (s : Shared) (a : Addr) (ws : List Value), ws.length = ps.length → BindsTo s fd ⟨[.ref a], ks.zip ws⟩ ((("self" : Str) :: ps).zip (.ref a :: perm is ws)))
    (hK : X.K = K) (hG : Bare X.A) (hr : Room k X.A) (hk : 2 ≤ k) (hg : Gl X x) (hil : is.length = ps.length) (hip : ∀ ds : List D, ds.length = is.length → (perm is ds).length = ps.length) (hkw : SK K X kws ma) (hdb : (x == ("__debug__" : Str)) = false := by decide)
    (hall : (backToKw pos (keywordEach kws X.env)).all (·.1.isSome) = true := by rfl) (hks : (backToKw pos (keywordEach kws X.env)).filterMap (·.1) = ks := by rfl)
    (hpl : ((backTo pos (starEach [] X.env)).any (·.1) || (backToKw pos (keywordEach kws X.env)).any (·.1.isNone)) = false := by rfl) : SE K (fE K) X (.Call (.Name x p) [] kws pos) (mMkK x ps is ma) := by
  subst hK
  refine ⟨fun ρ k k' w => hkw.mono ρ _ _ fun ds ρ1 q => ⟨q.1, q.2.1, w _ _ q.2.2⟩, ⟨fun pins s σ H Q I ⟨G, ρ, R, q⟩ => ?_⟩⟩
  obtain ⟨bm, T⟩ := O.ov
  obtain ⟨fI, iC, tI, Fn⟩ := O.ini
  have ht : tA X.K ma σ H (fun vs H2 => ∃ G2 ds ρ2, Rel X.K σ G2 H2 ρ2 ∧ Lk 0 σ G H ρ σ G2 H2 ρ2 ∧ RpAll X.K G2 vs ds ∧ ds.length = is.length ∧ (∀ d ∈ perm is ds, okF d) ∧ ∀ v G' H', Rel X.K σ G' H' ρ2 → Lk 0 σ G H ρ σ G' H' ρ2 → Rp X.K G' v (.exc x ps.reverse (perm is ds).reverse) → Q v H') :=
    ⟨G, ρ, R, hkw.mono ρ _ _ (fun ds ρ1 q vs G2 H2 R2 l2 rs => ⟨G2, ds, ρ1, R2, l2, rs, q.1, q.2.1, fun v G' H' R' l' r' => q.2.2 v G' H' R' l' r'⟩) q⟩
  refine wpAny_Call_Name_kw (ld_glob I hg O.mC ?_ hdb)
  refine PySem.W.callWith_KW0 (h₀ := X.base) I.ok.mod.kin O.kp hall (thn (hkw.pk.run pos pins s σ H _ I ht) fun ws s1 ⟨zs, H1, I1, r, G1, ds, ρ1, R1, l1, rs, hl, hf, q⟩ => ⟨I1.kIn, ?_⟩) hpl
  rw [hks]
  have hwl : ws.length = ps.length := by rw [← r.length, rps_len rs, hl, hil]
  refine mk_run (k := 1) (us := []) (ws := perm is ws) (kw := ks.zip ws) T iC tI Fn hG (hr.mono hk) I1 (Nat.zero_le _) (vals_perm r is) (fun s' a => hb s' a ws hwl) fun a na => ?_
  exact mk_end (φ := fE X.K) O.nC R1 l1 (rps_perm rs is) (hip ds hl) hf q a na
/-! fields -/
def mXo (S : Str → Option (List Str)) (f : Str) (m : ME) : ME := fun ρ k => m ρ fun d ρ1 => match d with
  | .exc x fs ds => (∃ ps, S x = some ps ∧ f ∈ ps) ∧ ∃ v, (fs.zip ds).lookup f = some v ∧ k v ρ1
  | _ => False
theorem zip_lookup {G : Hp} {f : Str} {d : D} : ∀ {fs : List Str} {vs : List V} {ds : List D}, RpAll K G vs ds → (fs.zip ds).lookup f = some d → ∃ v, (fs.zip vs).lookup f = some v ∧ Rp K G v d
  | [], _, _, _, h => by cases h
  | g :: fs, _, _, .nil, h => by cases h
  | g :: fs, _, _, .cons (v := v) (d := d0) r rs, h => by
    simp only [List.zip_cons_cons, List.lookup_cons] at h ⊢
    cases hq : f == g with
    | true =>
      simp only [hq] at h ⊢
      cases h
      exact ⟨v, rfl, r⟩
    | false =>
      simp only [hq] at h ⊢
      exact zip_lookup rs h
theorem se_xo {S : Str → Option (List Str)} {f : Str} {m : ME} (tb : ∀ x ps, S x = some ps → ∃ C, ClsA K x ps C) (hK : X.K = K) (he : SE K (fV K) X e m) (hb : attributeBase e f X.env (eval e X.env) = eval e X.env := by rfl) : SE K (fE K) X (.Attribute e f pos) (mXo S f m) := by
  subst hK
  refine ⟨fun ρ k k' w => he.mono ρ _ _ fun d ρ1 q => ?_, pe_weak (pe_xo he.pe hb) fun σ H Q ⟨G, ρ, R, q⟩ => ⟨G, ρ, R, he.mono ρ _ _ (fun d ρ1 q v G1 H1 R1 l1 vw => ?_) q⟩⟩
  · cases d <;> first | exact q.elim | exact ⟨q.1, q.2.choose, q.2.choose_spec.1, w _ _ q.2.choose_spec.2⟩
  · cases d <;> first | exact q.elim | skip
    rename_i x fs ds
    obtain ⟨⟨ps, hS, hf⟩, v', hl, q⟩ := q
    obtain ⟨C, A⟩ := tb x ps hS
    cases vw with
    | own h ob => cases ob
    | fro r =>
      cases r with
      | exn c s => cases hl
      | exf c s t l rs =>
        rename_i a C' d vs
        have eC : C' = C := by
          rw [A.nC] at c
          cases c
          rfl
        subst eC
        obtain ⟨u, hu, ru⟩ := zip_lookup rs hl
        exact ⟨a, C', d, fs.zip vs, u, rfl, R1.gh _ _ s, R1.gh _ _ t, A.xf, A.nf f hf, hu, q u G1 H1 R1 l1 ru⟩
/-! isinstance -/
def mIsO (S : Str → Option Bool) (m : ME) : ME := fun ρ k => m ρ fun d ρ1 => match d with
  | .exc x _ _ => ∃ b, S x = some b ∧ k (.bool b) ρ1
  | _ => False
theorem se_isO {S : Str → Option Bool} {c : Expr} {cv : V} {cw : Value} {m : ME} (tb : ∀ x b, S x = some b → ∃ C ps, ClsA K x ps C ∧ PySem.W.kitOne K (.ref C) cw = some b) (hK : X.K = K) (hg : Gl X "isinstance") (hm : X.mg "isinstance" = none)
    (he : SE K (fE K) X e m) (hc : PE X c (tC cv)) (hw : ClsV cv cw)
    (hs : starEach [e, c] X.env = (false, eval e X.env) :: starEach [c] X.env := by rfl) (hs2 : starEach [c] X.env = (false, eval c X.env) :: starEach [] X.env := by rfl) (hpl : (backTo pos (starEach [c] X.env)).any (·.1) = false := by rfl) :
    SE K (fE K) X (.Call (.Name "isinstance" p) [e, c] [] pos) (mIsO S m) := by
  subst hK
  refine ⟨fun ρ k k' w => he.mono ρ _ _ fun d ρ1 q => ?_, pe_weak (pe_callB call_isO hg hm (by decide +kernel) (pa_cons he.pe (pa_cons hc pa_nil hs2) hs) (by decide) (by decide) hs hpl) fun σ H Q ⟨G, ρ, R, q⟩ => ⟨G, ρ, R, he.mono ρ _ _ (fun d ρ1 q v G1 H1 R1 l1 r => ?_) q⟩⟩
  · cases d <;> first | exact q.elim | exact ⟨q.choose, q.choose_spec.1, w _ _ q.choose_spec.2⟩
  · cases d <;> first | exact q.elim | skip
    rename_i x fs ds
    obtain ⟨b, hS, q⟩ := q
    obtain ⟨C, ps, A, kt⟩ := tb x b hS
    have fin := q (.bl b) G1 H1 R1 l1 (.bl b)
    cases r with
    | exn c' s =>
      have eC := c'.symm.trans A.nC
      cases eC
      exact ⟨_, C, cv, cw, b, rfl, .inl (R1.gh _ _ s), A.ec, hw, kt, fin⟩
    | exf c' s t' l rs =>
      have eC := c'.symm.trans A.nC
      cases eC
      exact ⟨_, C, cv, cw, b, rfl, .inr ⟨_, _, R1.gh _ _ s, R1.gh _ _ t'⟩, A.ec, hw, kt, fin⟩
end
end Dl

set_option Elab.async false
set_option linter.all false
set_option maxRecDepth 100000
set_option maxHeartbeats 4000000
/-! What the text leaves of a class of exceptions over a built-in one: its kin, its making, its fields. -/
namespace Dl
open PySem PySem.Spec PyProof.Rows L2 Br
/-- a built-in exception under an own class -/
structure BaseK (B newId i : String) (bm : List Value) : Prop where
  ov : Ox.Ov newId bm
  ini : Ox.Ini B i
  ps : ∀ self, refuseLoop self "__setattr__" bm = pure ()
  ob : bm.contains (.type "object") = true
  hB : bm.contains (.type B) = true
  bx : bm.contains (.type "BaseException") = true
  nr : ∀ a : Addr, bm.contains (.ref a) = false
  hbt : bootBuiltins B = some (.type B)
  hty : typeOf (.type B) = pure (.type "type")
  hst : Manifest.isStub B = false
  hn : (B : Str) ≠ "__name__"
  hdb : ((B : Str) == ("__debug__" : Str)) = false
  hh : PySem.W.handedIn (.builtin i) = true
  vV : ∀ K, PySem.W.findCls K (.type B) (.type "type") "__init__" = some (.val (.builtin i))
def bmV : List Value := [.type "ValueError", .type "Exception", .type "BaseException", .type "object"]
def bmK : List Value := [.type "KeyError", .type "LookupError", .type "Exception", .type "BaseException", .type "object"]
def bmL : List Value := [.type "LookupError", .type "Exception", .type "BaseException", .type "object"]
def bmO : List Value := [.type "OverflowError", .type "ArithmeticError", .type "Exception", .type "BaseException", .type "object"]
def bmR : List Value := [.type "RuntimeError", .type "Exception", .type "BaseException", .type "object"]
theorem baseV : BaseK "ValueError" "ValueError.__new__" "ValueError.__init__" bmV where
  ov := ⟨⟨_, _, _, PySem.F.excBase_ValueError, by decide +kernel⟩, by decide +kernel, by decide +kernel⟩
  ini := .of PySem.F.excBase_ValueError
  ps := fun self => by kernel_rfl
  ob := by decide +kernel
  hB := by decide +kernel
  bx := by decide +kernel
  nr := fun a => rfl
  hbt := by decide +kernel
  hty := by kernel_rfl
  hst := by decide +kernel
  hn := by decide +kernel
  hdb := by decide +kernel
  hh := by decide +kernel
  vV := fun K => by kernel_rfl
theorem baseL : BaseK "LookupError" "LookupError.__new__" "LookupError.__init__" bmL where
  ov := ⟨⟨_, _, _, PySem.F.excBase_LookupError, by decide +kernel⟩, by decide +kernel, by decide +kernel⟩
  ini := .of PySem.F.excBase_LookupError
  ps := fun self => by kernel_rfl
  ob := by decide +kernel
  hB := by decide +kernel
  bx := by decide +kernel
  nr := fun a => rfl
  hbt := by decide +kernel
  hty := by kernel_rfl
  hst := by decide +kernel
  hn := by decide +kernel
  hdb := by decide +kernel
  hh := by decide +kernel
  vV := fun K => by kernel_rfl
theorem baseO : BaseK "OverflowError" "OverflowError.__new__" "OverflowError.__init__" bmO where
  ov := ⟨⟨_, _, _, PySem.F.excBase_OverflowError, by decide +kernel⟩, by decide +kernel, by decide +kernel⟩
  ini := .of PySem.F.excBase_OverflowError
  ps := fun self => by kernel_rfl
  ob := by decide +kernel
  hB := by decide +kernel
  bx := by decide +kernel
  nr := fun a => rfl
  hbt := by decide +kernel
  hty := by kernel_rfl
  hst := by decide +kernel
  hn := by decide +kernel
  hdb := by decide +kernel
  hh := by decide +kernel
  vV := fun K => by kernel_rfl
theorem baseR : BaseK "RuntimeError" "RuntimeError.__new__" "RuntimeError.__init__" bmR where
  ov := ⟨⟨_, _, _, PySem.F.excBase_RuntimeError, by decide +kernel⟩, by decide +kernel, by decide +kernel⟩
  ini := .of PySem.F.excBase_RuntimeError
  ps := fun self => by kernel_rfl
  ob := by decide +kernel
  hB := by decide +kernel
  bx := by decide +kernel
  nr := fun a => rfl
  hbt := by decide +kernel
  hty := by kernel_rfl
  hst := by decide +kernel
  hn := by decide +kernel
  hdb := by decide +kernel
  hh := by decide +kernel
  vV := fun K => by kernel_rfl
theorem baseE : BaseK "KeyError" "LookupError.__new__" "KeyError.__init__" bmK where
  ov := ⟨⟨_, _, _, PySem.F.excBase_LookupError, by decide +kernel⟩, by decide +kernel, by decide +kernel⟩
  ini := Ox.ini_KeyError
  ps := fun self => by kernel_rfl
  ob := by decide +kernel
  hB := by decide +kernel
  bx := by decide +kernel
  nr := fun a => rfl
  hbt := by decide +kernel
  hty := by kernel_rfl
  hst := by decide +kernel
  hn := by decide +kernel
  hdb := by decide +kernel
  hh := by decide +kernel
  vV := fun K => by kernel_rfl
/-- what stands in the text's top of a class x over B -/
structure CRaw (K : PySem.W.Frag) (mg : Str → Option Value) (x qi : Str) (newId : String) (bm : List Value) (st : Stmt) (ps : List Str) (C fi : Addr) (fd : FuncData) : Prop where
  mC : mg x = some (.ref C)
  nC : PySem.W.nsIn K mainGlobals x = some (some (.ref C))
  lk : ∃ (q : Str) (N : Addr) (bs : List Value) (sn : List Str) (sub : List Value) (ab : Bool) (col : Option Bool) (dd : Option Addr) (k0 k1 k2 k3 k5 : Option Value), K.lookup C = some (excClassObj x q C N bs bm true sn sub ab col dd k0 k1 k2 k3 k5 newId)
  sa : PySem.W.findIn K (.ref C) "__setattr__" = some (some (.builtin "object.__setattr__"))
  ga : PySem.W.findIn K (.ref C) "__getattribute__" = some (some (.builtin "BaseException.__getattribute__"))
  gg : PySem.W.findIn K (.ref C) "__getattr__" = some none
  ca : PySem.W.findIn K (.ref C) "__class__" = some (some (.builtin "object.__class__"))
  ci : PySem.W.findIn K (.ref C) "__init__" = some (some (.ref fi))
  ti : PySem.W.typeIn K (.ref fi) = some (.type "function")
  F : Fun K "__init__" qi st fi fd
  nf : ∀ f ∈ ps, PySem.W.findIn K (.ref C) f = some none
  bi : ∀ (s : Shared) (a : Addr) (ws : List Value), ws.length = ps.length → BindsTo s fd ⟨.ref a :: ws, []⟩ ((("self" : Str) :: ps).zip (.ref a :: ws))
theorem sp_class (K : PySem.W.Frag) : PySem.W.specialIn K (.builtin "object.__class__") "__get__" = some (some (.builtin "getset_descriptor.__get__")) := by kernel_rfl
theorem tk_class (K : PySem.W.Frag) : PySem.W.takesIn K (.builtin "object.__class__") = some true := by kernel_rfl
theorem call_type (K : PySem.W.Frag) : PySem.W.findIn K (.type "type") "__call__" = some (some (.builtin "type.__call__")) := by kernel_rfl
section
variable {K : PySem.W.Frag} {mg : Str → Option Value} {x qi : Str} {B newId i : String} {bm : List Value} {st : Stmt} {ps : List Str} {C fi : Addr} {fd : FuncData}
theorem CRaw.cls (R : CRaw K mg x qi newId bm st ps C fi fd) : ∃ cd, PySem.W.clsIn K C = some cd ∧ cd.name = x ∧ cd.mro = .ref C :: bm ∧ cd.hasDict = true := by
  obtain ⟨q, N, bs, sn, sub, ab, col, dd, k0, k1, k2, k3, k5, l⟩ := R.lk
  exact ⟨{ name := x, bases := bs, mro := .ref C :: bm, ns := N, qualname := q, hasDict := true, slotNames := sn, subclasses := sub, abstract := ab, collection := col, hasDel := false }, by unfold PySem.W.clsIn; rw [l] <;> rfl, rfl, rfl, rfl⟩
theorem CRaw.sub (R : CRaw K mg x qi newId bm st ps C fi fd) (v : Value) : PySem.W.subIn K (.ref C) v = some ((Value.ref C :: bm).contains v) := by
  obtain ⟨cd, hc, _, hm, _⟩ := R.cls
  show PySem.W.mroIn K C v = _
  unfold PySem.W.mroIn
  rw [hc, Option.bind_some, hm]
  rfl
theorem CRaw.ty (R : CRaw K mg x qi newId bm st ps C fi fd) : PySem.W.typeIn K (.ref C) = some (.type "type") := by
  obtain ⟨q, N, bs, sn, sub, ab, col, dd, k0, k1, k2, k3, k5, l⟩ := R.lk
  show (K.lookup C).map (·.cls) = _
  rw [l]
  rfl
theorem CRaw.kp (R : CRaw K mg x qi newId bm st ps C fi fd) : PySem.W.keepIn K (.ref C) = true := by
  have t := R.ty
  obtain ⟨q, N, bs, sn, sub, ab, col, dd, k0, k1, k2, k3, k5, l⟩ := R.lk
  unfold PySem.W.keepIn
  dsimp only
  rw [l]
  dsimp only
  have e : PySem.W.specialIn K (.ref C) "__call__" = some (some (.builtin "type.__call__")) := by
    unfold PySem.W.specialIn
    rw [t, Option.bind_some]
    exact call_type K
  rw [e]
  rfl
theorem CRaw.ovc (b : BaseK B newId i bm) (R : CRaw K mg x qi newId bm st ps C fi fd) : OvC K C bm := by
  have t := R.ty
  have k := R.kp
  obtain ⟨q, N, bs, sn, sub, ab, col, dd, k0, k1, k2, k3, k5, l⟩ := R.lk
  exact ⟨⟨x, q, N, bs, sn, sub, ab, col, dd, k0, k1, k2, k3, k5, newId, l, b.ov⟩, b.ps, b.ob, R.sa, t, k⟩
theorem CRaw.hd (R : CRaw K mg x qi newId bm st ps C fi fd) : PySem.W.hasDictIn K C = true := by
  obtain ⟨cd, hc, _, _, hh⟩ := R.cls
  unfold PySem.W.hasDictIn
  rw [hc]
  exact hh
theorem CRaw.xf (b : BaseK B newId i bm) (R : CRaw K mg x qi newId bm st ps C fi fd) : XfC K C :=
  ⟨R.ga, R.gg, (R.sub _).trans (by rw [List.contains_cons, b.bx, Bool.or_true]), R.hd⟩
theorem CRaw.ec (b : BaseK B newId i bm) (R : CRaw K mg x qi newId bm st ps C fi fd) : ExcC K C :=
  ⟨R.ga, R.gg, (R.xf b).exC, R.hd, R.ca, sp_class K, tk_class K, (R.sub (.type "object")).trans (by rw [List.contains_cons, b.ob, Bool.or_true])⟩
theorem CRaw.clsA (b : BaseK B newId i bm) (R : CRaw K mg x qi newId bm st ps C fi fd) : ClsA K x ps C := ⟨R.nC, R.xf b, R.ec b, R.nf⟩
theorem CRaw.clsOk {P : Program} {w : World} {base : Heap} (b : BaseK B newId i bm) (R : CRaw K mg x qi newId bm st ps C fi fd) (h : FnG P w K mg base CX0 1 fi fd (("self" : Str) :: ps) (spE K C ps)) : ClsOk P w K mg base x ps C fd :=
  ⟨R.mC, R.nC, ⟨bm, R.ovc b⟩, R.kp, ⟨fi, R.ci, R.ti, h⟩, R.bi⟩
/-- isinstance of an own class -/
theorem CRaw.kin (b : BaseK B newId i bm) (R : CRaw K mg x qi newId bm st ps C fi fd) {x' qi' : Str} {newId' : String} {bm' : List Value} {st' : Stmt} {ps' : List Str} {C' fi' : Addr} {fd' : FuncData} (R' : CRaw K mg x' qi' newId' bm' st' ps' C' fi' fd') :
    PySem.W.kitOne K (.ref C) (.ref C') = some (decide (x = x')) := by
  by_cases e : x = x'
  · subst e
    have := R.nC.symm.trans R'.nC
    cases this
    rw [decide_eq_true rfl]
    unfold PySem.W.kitOne
    rw [if_pos (by simp)]
  · have ne : C ≠ C' := fun z => by
      subst z
      obtain ⟨cd, h1, h2, _⟩ := R.cls
      obtain ⟨cd', h3, h4, _⟩ := R'.cls
      rw [h1] at h3
      cases h3
      exact e (h2.symm.trans h4)
    rw [decide_eq_false e]
    have hs : PySem.W.subIn K (.ref C) (.ref C') = some false := (R.sub _).trans (by
      rw [List.contains_cons, b.nr, Bool.or_false]
      exact congrArg some (beq_eq_false_iff_ne.mpr fun z => ne (Value.ref.inj z).symm))
    refine kit_own ((R.sub _).trans (by simp)) hs ?_ R'.ty
    obtain ⟨cd, hc, _⟩ := R'.cls
    unfold PySem.W.isClsIn
    rw [hc]
    rfl
/-- isinstance of a built-in class -/
theorem CRaw.root (R : CRaw K mg x qi newId bm st ps C fi fd) {T : String} (m : PySem.W.kitMeta T = true) : PySem.W.kitOne K (.ref C) (.type T) = some (bm.contains (.type T)) :=
  kit_typ ((R.sub _).trans (by rw [List.contains_cons]; rfl)) m
end
/-! how each is made -/
section
variable {K : PySem.W.Frag} {C : Addr} {bm : List Value} {B : String} {f g z z2 : Str} {vs : List V} {H : Hp} {Q : VK} {E : XK}
theorem len_app2 {x y : Str} {n m : Nat} (hx : x.length ≤ n) (hy : y.length ≤ m) : (x ++ y).length ≤ n + m := by
  have e : (x ++ y).length = x.length + y.length := Str.length_append ..
  omega
theorem init_c0 (T : OvC K C bm) (hB : bm.contains (.type B) = true) (h : spE K C [] vs H Q E) :
    tDrop (tBi K B (tCons (tVar 0) (tCons (tC (V.str z)) tNil))) { nx := fun _ H' => Q .non H', rt := Q } (start ["self"] vs) H := by
  obtain ⟨a, xs, rfl, hl, hf, ha, q⟩ := h
  rcases q with ⟨_, q⟩ | ⟨n, _⟩
  · exact ⟨_, rfl, a, C, bm, _, rfl, (show 1 ≤ 1000 by decide), T, hB, ha, q⟩
  · exact absurd rfl n
theorem init_c1 (T : OvC K C bm) (hB : bm.contains (.type B) = true) (nf : PySem.W.findIn K (.ref C) f = some none) (h : spE K C [f] vs H Q E) :
    tSeq (tDrop (tBi K B (tCons (tVar 0) (tCons (tC (V.str z)) tNil)))) (tOs K f (tVar 0) (tVar 1)) { nx := fun _ H' => Q .non H', rt := Q } (start ["self", f] vs) H := by
  obtain ⟨a, xs, rfl, hl, hf, ha, q⟩ := h
  rcases q with ⟨n, _⟩ | ⟨_, q⟩
  · cases n
  match xs, hl, hf, q with
  | [v], _, hf, q =>
  exact ⟨_, rfl, a, C, bm, _, rfl, (show 1 ≤ 1000 by decide), T, hB, ha, v, rfl, _, rfl, a, C, bm, rfl, T, nf, .inl ⟨ha, fun dx nd ne => q dx nd ne⟩⟩
theorem init_f1 (T : OvC K C bm) (hB : bm.contains (.type B) = true) (nf : PySem.W.findIn K (.ref C) f = some none) (hz : z.length ≤ 1000) (h : spE K C [f] vs H Q E) :
    tSeq (tDrop (tBi K B (tCons (tVar 0) (tCons (fun σ H Q => tJs [tC (V.str z), tFmtD K (tVar 1)] Str.empty σ H fun out H1 => Q (V.str out) H1) tNil)))) (tOs K f (tVar 0) (tVar 1)) { nx := fun _ H' => Q .non H', rt := Q } (start ["self", f] vs) H := by
  obtain ⟨a, xs, rfl, hl, hf, ha, q⟩ := h
  rcases q with ⟨n, _⟩ | ⟨_, q⟩
  · cases n
  match xs, hl, hf, q with
  | [v], _, hf, q =>
  obtain ⟨d, dp, ok⟩ := hf v (List.mem_singleton.mpr rfl)
  have e0 : (Str.empty : Str).length ≤ 0 := Nat.le_refl 0
  have l1 : (Str.empty ++ z).length ≤ 0 + 1000 := len_app2 e0 hz
  have l2 : (Str.empty ++ z ++ txtOf d).length ≤ 0 + 1000 + 1000 := len_app2 l1 ok.2.2.2.2
  have big : 4000 ≤ sizeLine := by decide
  exact ⟨_, rfl, z, rfl, by omega, v, rfl, d, dp, ok, _, rfl, by omega, a, C, bm, _, rfl, (show 1 ≤ 1000 by decide), T, hB, ha, v, rfl, _, rfl, a, C, bm, rfl, T, nf, .inl ⟨ha, fun dx nd ne => q dx nd ne⟩⟩
theorem init_f2 (T : OvC K C bm) (hB : bm.contains (.type B) = true) (nf : PySem.W.findIn K (.ref C) f = some none) (ng : PySem.W.findIn K (.ref C) g = some none) (hz : z.length ≤ 1000) (hz2 : z2.length ≤ 1000) (h : spE K C [f, g] vs H Q E) :
    tSeq (tDrop (tBi K B (tCons (tVar 0) (tCons (fun σ H Q => tJs [tC (V.str z), tFmtD K (tVar 1), tC (V.str z2), tFmtD K (tVar 2)] Str.empty σ H fun out H1 => Q (V.str out) H1) tNil)))) (tSeq (tOs K f (tVar 0) (tVar 1)) (tOs K g (tVar 0) (tVar 2))) { nx := fun _ H' => Q .non H', rt := Q } (start ["self", f, g] vs) H := by
  obtain ⟨a, xs, rfl, hl, hf, ha, q⟩ := h
  rcases q with ⟨n, _⟩ | ⟨_, q⟩
  · cases n
  match xs, hl, hf, q with
  | [v, u], _, hf, q =>
  obtain ⟨d, dp, ok⟩ := hf v (by simp)
  obtain ⟨d2, dp2, ok2⟩ := hf u (by simp)
  have e0 : (Str.empty : Str).length ≤ 0 := Nat.le_refl 0
  have l1 : (Str.empty ++ z).length ≤ 0 + 1000 := len_app2 e0 hz
  have l2 : (Str.empty ++ z ++ txtOf d).length ≤ 0 + 1000 + 1000 := len_app2 l1 ok.2.2.2.2
  have l3 : (Str.empty ++ z ++ txtOf d ++ z2).length ≤ 0 + 1000 + 1000 + 1000 := len_app2 l2 hz2
  have l4 : (Str.empty ++ z ++ txtOf d ++ z2 ++ txtOf d2).length ≤ 0 + 1000 + 1000 + 1000 + 1000 := len_app2 l3 ok2.2.2.2.2
  have big : 4000 ≤ sizeLine := by decide
  refine ⟨_, rfl, z, rfl, by omega, v, rfl, d, dp, ok, _, rfl, by omega, z2, rfl, by omega, u, rfl, d2, dp2, ok2, _, rfl, by omega, a, C, bm, _, rfl, (show 1 ≤ 1000 by decide), T, hB, ha, v, rfl, _, rfl, a, C, bm, rfl, T, nf, .inl ⟨ha, fun dx nd ne => ?_⟩⟩
  have q' := q dx nd ne
  refine ⟨u, rfl, _, rfl, a, C, bm, rfl, T, ng, .inr ⟨dx, [(f, v)], upd_same, (upd_ne ne).trans upd_same, (show 1 ≤ 900 by decide), ?_⟩⟩
  have e : upd (upd (upd H dx (exd dx [(f, v)])) a (exo a C (some dx))) dx (exd dx ((g, u) :: [(f, v)])) = upd (upd H dx (exd dx [(g, u), (f, v)])) a (exo a C (some dx)) := by
    funext b
    by_cases hb : b = dx
    · subst hb
      rw [upd_same, upd_ne ne, upd_same]
    · rw [upd_ne hb]
      by_cases hc : b = a
      · subst hc
        rw [upd_same, upd_same]
      · rw [upd_ne hc, upd_ne hc, upd_ne hb, upd_ne hb]
  rw [e]
  exact q'
end
end Dl

set_option Elab.async false
set_option linter.all false
set_option maxRecDepth 100000
set_option maxHeartbeats 4000000
/-! Refusals apart. -/
namespace K04
open PySem PySem.Spec PyProof.Rows L2 Br Dl
def top (i : Nat) : Stmt := PySem.Challenge.pw_branchedhall_k04_refusals_apart.main.body.getD i (.Pass ⟨0, 0, 0, 0⟩)
abbrev s_law_pool : Stmt := top 19
theorem sc_law_pool : FnScope ["_law_script", "_law_k", "_law_cell", "_law_size", "_law_mixed"] ["_law_script", "_law_k"] (defScope s_law_pool) := ⟨rfl, rfl, rfl, by decide +kernel, rfl, by decide +kernel, by decide +kernel⟩
abbrev s_law_take : Stmt := top 20
theorem sc_law_take : FnScope ["_law_pool_here", "_law_most", "_law_found"] ["_law_pool_here", "_law_most"] (defScope s_law_take) := ⟨rfl, rfl, rfl, by decide +kernel, rfl, by decide +kernel, by decide +kernel⟩
abbrev s_law_letters : Stmt := top 21
theorem sc_law_letters : FnScope ["_law_pool_here", "_law_most", "_law_letters_here", "_law_turn"] ["_law_pool_here", "_law_most"] (defScope s_law_letters) := ⟨rfl, rfl, rfl, by decide +kernel, rfl, by decide +kernel, by decide +kernel⟩
abbrev s_law_made : Stmt := top 22
theorem sc_law_made : FnScope ["_law_one", "_law_other", "_law_found"] ["_law_one", "_law_other"] (defScope s_law_made) := ⟨rfl, rfl, rfl, by decide +kernel, rfl, by decide +kernel, by decide +kernel⟩
abbrev s_law_named : Stmt := top 23
theorem sc_law_named : FnScope ["_law_one", "_law_other", "_law_found"] ["_law_one", "_law_other"] (defScope s_law_named) := ⟨rfl, rfl, rfl, by decide +kernel, rfl, by decide +kernel, by decide +kernel⟩
abbrev s_law_own : Stmt := top 24
theorem sc_law_own : FnScope ["_law_error", "_law_found"] ["_law_error"] (defScope s_law_own) := ⟨rfl, rfl, rfl, by decide +kernel, rfl, by decide +kernel, by decide +kernel⟩
abbrev s_law_roots : Stmt := top 25
theorem sc_law_roots : FnScope ["_law_error", "_law_found", "_law_k"] ["_law_error"] (defScope s_law_roots) := ⟨rfl, rfl, rfl, by decide +kernel, rfl, by decide +kernel, by decide +kernel⟩
abbrev s_law_fields : Stmt := top 26
theorem sc_law_fields : FnScope ["_law_some", "_law_found"] ["_law_some"] (defScope s_law_fields) := ⟨rfl, rfl, rfl, by decide +kernel, rfl, by decide +kernel, by decide +kernel⟩
abbrev s_law : Stmt := top 27
theorem sc_law : FnScope ["_law_script", "_law_dues", "_law_k", "_law_pool_here", "_law_things", "_law_one", "_law_other", "_law_some", "_law_at", "_law_error", "_law_own_here"] ["_law_script"] (defScope s_law) := ⟨rfl, rfl, rfl, by decide +kernel, rfl, by decide +kernel, by decide +kernel⟩
/-- what the top has left -/
structure Txt (K : PySem.W.Frag) (mg : Str → Option Value) where
  f_law_pool : Addr
  d_law_pool : FuncData
  F_law_pool : Fun K "_law_pool" "_law_pool" s_law_pool f_law_pool d_law_pool
  b_law_pool : Binds K d_law_pool ["_law_script", "_law_k"] []
  kw_law_pool : ∀ (s : Shared) (ws : List Value), ws.length = 2 → BindsTo s d_law_pool ⟨[], (["_law_script", "_law_k"] : List Str).zip ws⟩ ((["_law_script", "_law_k"] : List Str).zip ws)
  m_law_pool : mg "_law_pool" = some (.ref f_law_pool)
  f_law_take : Addr
  d_law_take : FuncData
  F_law_take : Fun K "_law_take" "_law_take" s_law_take f_law_take d_law_take
  b_law_take : Binds K d_law_take ["_law_pool_here", "_law_most"] []
  kw_law_take : ∀ (s : Shared) (ws : List Value), ws.length = 2 → BindsTo s d_law_take ⟨[], (["_law_pool_here", "_law_most"] : List Str).zip ws⟩ ((["_law_pool_here", "_law_most"] : List Str).zip ws)
  m_law_take : mg "_law_take" = some (.ref f_law_take)
  f_law_letters : Addr
  d_law_letters : FuncData
  F_law_letters : Fun K "_law_letters" "_law_letters" s_law_letters f_law_letters d_law_letters
  b_law_letters : Binds K d_law_letters ["_law_pool_here", "_law_most"] []
  kw_law_letters : ∀ (s : Shared) (ws : List Value), ws.length = 2 → BindsTo s d_law_letters ⟨[], (["_law_pool_here", "_law_most"] : List Str).zip ws⟩ ((["_law_pool_here", "_law_most"] : List Str).zip ws)
  m_law_letters : mg "_law_letters" = some (.ref f_law_letters)
  f_law_made : Addr
  d_law_made : FuncData
  F_law_made : Fun K "_law_made" "_law_made" s_law_made f_law_made d_law_made
  b_law_made : Binds K d_law_made ["_law_one", "_law_other"] []
  kw_law_made : ∀ (s : Shared) (ws : List Value), ws.length = 2 → BindsTo s d_law_made ⟨[], (["_law_one", "_law_other"] : List Str).zip ws⟩ ((["_law_one", "_law_other"] : List Str).zip ws)
  m_law_made : mg "_law_made" = some (.ref f_law_made)
  f_law_named : Addr
  d_law_named : FuncData
  F_law_named : Fun K "_law_named" "_law_named" s_law_named f_law_named d_law_named
  b_law_named : Binds K d_law_named ["_law_one", "_law_other"] []
  kw_law_named : ∀ (s : Shared) (ws : List Value), ws.length = 2 → BindsTo s d_law_named ⟨[], (["_law_one", "_law_other"] : List Str).zip ws⟩ ((["_law_one", "_law_other"] : List Str).zip ws)
  m_law_named : mg "_law_named" = some (.ref f_law_named)
  f_law_own : Addr
  d_law_own : FuncData
  F_law_own : Fun K "_law_own" "_law_own" s_law_own f_law_own d_law_own
  b_law_own : Binds K d_law_own ["_law_error"] []
  kw_law_own : ∀ (s : Shared) (ws : List Value), ws.length = 1 → BindsTo s d_law_own ⟨[], (["_law_error"] : List Str).zip ws⟩ ((["_law_error"] : List Str).zip ws)
  m_law_own : mg "_law_own" = some (.ref f_law_own)
  f_law_roots : Addr
  d_law_roots : FuncData
  F_law_roots : Fun K "_law_roots" "_law_roots" s_law_roots f_law_roots d_law_roots
  b_law_roots : Binds K d_law_roots ["_law_error"] []
  kw_law_roots : ∀ (s : Shared) (ws : List Value), ws.length = 1 → BindsTo s d_law_roots ⟨[], (["_law_error"] : List Str).zip ws⟩ ((["_law_error"] : List Str).zip ws)
  m_law_roots : mg "_law_roots" = some (.ref f_law_roots)
  f_law_fields : Addr
  d_law_fields : FuncData
  F_law_fields : Fun K "_law_fields" "_law_fields" s_law_fields f_law_fields d_law_fields
  b_law_fields : Binds K d_law_fields ["_law_some"] []
  kw_law_fields : ∀ (s : Shared) (ws : List Value), ws.length = 1 → BindsTo s d_law_fields ⟨[], (["_law_some"] : List Str).zip ws⟩ ((["_law_some"] : List Str).zip ws)
  m_law_fields : mg "_law_fields" = some (.ref f_law_fields)
  f_law : Addr
  d_law : FuncData
  F_law : Fun K "law" "law" s_law f_law d_law
  b_law : Binds K d_law ["_law_script"] []
  kw_law : ∀ (s : Shared) (ws : List Value), ws.length = 1 → BindsTo s d_law ⟨[], (["_law_script"] : List Str).zip ws⟩ ((["_law_script"] : List Str).zip ws)
  m_law : mg "law" = some (.ref f_law)
  z_IndexError : mg "IndexError" = none
  z_KeyError : mg "KeyError" = none
  z_LookupError : mg "LookupError" = none
  z_OverflowError : mg "OverflowError" = none
  z_RuntimeError : mg "RuntimeError" = none
  z_ValueError : mg "ValueError" = none
  z_enumerate : mg "enumerate" = none
  z_int : mg "int" = none
  z_isinstance : mg "isinstance" = none
  z_len : mg "len" = none
  z_max : mg "max" = none
  z_min : mg "min" = none
  z_range : mg "range" = none
  z_repr : mg "repr" = none
end K04

namespace K04
open PySem PySem.Spec PyProof.Rows L2 Br Dl
abbrev i_NoDeed : Stmt := inClass (top 1) 0
theorem sci_NoDeed : FnScope ["self", "part"] ["self", "part"] (defScope i_NoDeed) := ⟨rfl, rfl, rfl, by decide +kernel, rfl, by decide +kernel, by decide +kernel⟩
abbrev i_NoText : Stmt := inClass (top 2) 0
theorem sci_NoText : FnScope ["self", "part"] ["self", "part"] (defScope i_NoText) := ⟨rfl, rfl, rfl, by decide +kernel, rfl, by decide +kernel, by decide +kernel⟩
abbrev i_NoStates : Stmt := inClass (top 3) 0
theorem sci_NoStates : FnScope ["self", "number"] ["self", "number"] (defScope i_NoStates) := ⟨rfl, rfl, rfl, by decide +kernel, rfl, by decide +kernel, by decide +kernel⟩
abbrev i_NoPaper : Stmt := inClass (top 4) 0
theorem sci_NoPaper : FnScope ["self"] ["self"] (defScope i_NoPaper) := ⟨rfl, rfl, rfl, by decide +kernel, rfl, by decide +kernel, by decide +kernel⟩
abbrev i_NoBegin : Stmt := inClass (top 5) 0
theorem sci_NoBegin : FnScope ["self"] ["self"] (defScope i_NoBegin) := ⟨rfl, rfl, rfl, by decide +kernel, rfl, by decide +kernel, by decide +kernel⟩
abbrev i_NoRow : Stmt := inClass (top 6) 0
theorem sci_NoRow : FnScope ["self", "number"] ["self", "number"] (defScope i_NoRow) := ⟨rfl, rfl, rfl, by decide +kernel, rfl, by decide +kernel, by decide +kernel⟩
abbrev i_NoHouse : Stmt := inClass (top 7) 0
theorem sci_NoHouse : FnScope ["self", "house"] ["self", "house"] (defScope i_NoHouse) := ⟨rfl, rfl, rfl, by decide +kernel, rfl, by decide +kernel, by decide +kernel⟩
abbrev i_NoHouses : Stmt := inClass (top 8) 0
theorem sci_NoHouses : FnScope ["self", "number"] ["self", "number"] (defScope i_NoHouses) := ⟨rfl, rfl, rfl, by decide +kernel, rfl, by decide +kernel, by decide +kernel⟩
abbrev i_Barred : Stmt := inClass (top 9) 0
theorem sci_Barred : FnScope ["self", "where", "rule"] ["self", "where", "rule"] (defScope i_Barred) := ⟨rfl, rfl, rfl, by decide +kernel, rfl, by decide +kernel, by decide +kernel⟩
abbrev i_NoName : Stmt := inClass (top 10) 0
theorem sci_NoName : FnScope ["self", "name"] ["self", "name"] (defScope i_NoName) := ⟨rfl, rfl, rfl, by decide +kernel, rfl, by decide +kernel, by decide +kernel⟩
abbrev i_NoState : Stmt := inClass (top 11) 0
theorem sci_NoState : FnScope ["self", "name"] ["self", "name"] (defScope i_NoState) := ⟨rfl, rfl, rfl, by decide +kernel, rfl, by decide +kernel, by decide +kernel⟩
abbrev i_NoGoing : Stmt := inClass (top 12) 0
theorem sci_NoGoing : FnScope ["self", "name"] ["self", "name"] (defScope i_NoGoing) := ⟨rfl, rfl, rfl, by decide +kernel, rfl, by decide +kernel, by decide +kernel⟩
abbrev i_NoHall : Stmt := inClass (top 13) 0
theorem sci_NoHall : FnScope ["self"] ["self"] (defScope i_NoHall) := ⟨rfl, rfl, rfl, by decide +kernel, rfl, by decide +kernel, by decide +kernel⟩
abbrev i_Full : Stmt := inClass (top 14) 0
theorem sci_Full : FnScope ["self"] ["self"] (defScope i_Full) := ⟨rfl, rfl, rfl, by decide +kernel, rfl, by decide +kernel, by decide +kernel⟩
abbrev i_TooMany : Stmt := inClass (top 15) 0
theorem sci_TooMany : FnScope ["self", "many"] ["self", "many"] (defScope i_TooMany) := ⟨rfl, rfl, rfl, by decide +kernel, rfl, by decide +kernel, by decide +kernel⟩
abbrev i_Twin : Stmt := inClass (top 16) 0
theorem sci_Twin : FnScope ["self", "name"] ["self", "name"] (defScope i_Twin) := ⟨rfl, rfl, rfl, by decide +kernel, rfl, by decide +kernel, by decide +kernel⟩
abbrev i_Busy : Stmt := inClass (top 17) 0
theorem sci_Busy : FnScope ["self"] ["self"] (defScope i_Busy) := ⟨rfl, rfl, rfl, by decide +kernel, rfl, by decide +kernel, by decide +kernel⟩
/-- what the top has left of the classes -/
structure TxtX (K : PySem.W.Frag) (mg : Str → Option Value) (w : World) (T : Txt K mg) where
  C_NoDeed : Addr
  fi_NoDeed : Addr
  di_NoDeed : FuncData
  R_NoDeed : CRaw K mg "NoDeed" "NoDeed.__init__" "ValueError.__new__" bmV i_NoDeed ["part"] C_NoDeed fi_NoDeed di_NoDeed
  kb_NoDeed_0 : ∀ (s : Shared) (a : Addr) (ws : List Value), ws.length = 1 → BindsTo s di_NoDeed ⟨[.ref a], (["part"] : List Str).zip ws⟩ ((("self" : Str) :: (["part"] : List Str)).zip (.ref a :: perm [0] ws))
  C_NoText : Addr
  fi_NoText : Addr
  di_NoText : FuncData
  R_NoText : CRaw K mg "NoText" "NoText.__init__" "ValueError.__new__" bmV i_NoText ["part"] C_NoText fi_NoText di_NoText
  kb_NoText_0 : ∀ (s : Shared) (a : Addr) (ws : List Value), ws.length = 1 → BindsTo s di_NoText ⟨[.ref a], (["part"] : List Str).zip ws⟩ ((("self" : Str) :: (["part"] : List Str)).zip (.ref a :: perm [0] ws))
  C_NoStates : Addr
  fi_NoStates : Addr
  di_NoStates : FuncData
  R_NoStates : CRaw K mg "NoStates" "NoStates.__init__" "ValueError.__new__" bmV i_NoStates ["number"] C_NoStates fi_NoStates di_NoStates
  kb_NoStates_0 : ∀ (s : Shared) (a : Addr) (ws : List Value), ws.length = 1 → BindsTo s di_NoStates ⟨[.ref a], (["number"] : List Str).zip ws⟩ ((("self" : Str) :: (["number"] : List Str)).zip (.ref a :: perm [0] ws))
  C_NoPaper : Addr
  fi_NoPaper : Addr
  di_NoPaper : FuncData
  R_NoPaper : CRaw K mg "NoPaper" "NoPaper.__init__" "ValueError.__new__" bmV i_NoPaper [] C_NoPaper fi_NoPaper di_NoPaper
  C_NoBegin : Addr
  fi_NoBegin : Addr
  di_NoBegin : FuncData
  R_NoBegin : CRaw K mg "NoBegin" "NoBegin.__init__" "ValueError.__new__" bmV i_NoBegin [] C_NoBegin fi_NoBegin di_NoBegin
  C_NoRow : Addr
  fi_NoRow : Addr
  di_NoRow : FuncData
  R_NoRow : CRaw K mg "NoRow" "NoRow.__init__" "ValueError.__new__" bmV i_NoRow ["number"] C_NoRow fi_NoRow di_NoRow
  kb_NoRow_0 : ∀ (s : Shared) (a : Addr) (ws : List Value), ws.length = 1 → BindsTo s di_NoRow ⟨[.ref a], (["number"] : List Str).zip ws⟩ ((("self" : Str) :: (["number"] : List Str)).zip (.ref a :: perm [0] ws))
  C_NoHouse : Addr
  fi_NoHouse : Addr
  di_NoHouse : FuncData
  R_NoHouse : CRaw K mg "NoHouse" "NoHouse.__init__" "ValueError.__new__" bmV i_NoHouse ["house"] C_NoHouse fi_NoHouse di_NoHouse
  kb_NoHouse_0 : ∀ (s : Shared) (a : Addr) (ws : List Value), ws.length = 1 → BindsTo s di_NoHouse ⟨[.ref a], (["house"] : List Str).zip ws⟩ ((("self" : Str) :: (["house"] : List Str)).zip (.ref a :: perm [0] ws))
  C_NoHouses : Addr
  fi_NoHouses : Addr
  di_NoHouses : FuncData
  R_NoHouses : CRaw K mg "NoHouses" "NoHouses.__init__" "ValueError.__new__" bmV i_NoHouses ["number"] C_NoHouses fi_NoHouses di_NoHouses
  kb_NoHouses_0 : ∀ (s : Shared) (a : Addr) (ws : List Value), ws.length = 1 → BindsTo s di_NoHouses ⟨[.ref a], (["number"] : List Str).zip ws⟩ ((("self" : Str) :: (["number"] : List Str)).zip (.ref a :: perm [0] ws))
  C_Barred : Addr
  fi_Barred : Addr
  di_Barred : FuncData
  R_Barred : CRaw K mg "Barred" "Barred.__init__" "ValueError.__new__" bmV i_Barred ["where", "rule"] C_Barred fi_Barred di_Barred
  kb_Barred_0 : ∀ (s : Shared) (a : Addr) (ws : List Value), ws.length = 2 → BindsTo s di_Barred ⟨[.ref a], (["rule", "where"] : List Str).zip ws⟩ ((("self" : Str) :: (["where", "rule"] : List Str)).zip (.ref a :: perm [1, 0] ws))
  C_NoName : Addr
  fi_NoName : Addr
  di_NoName : FuncData
  R_NoName : CRaw K mg "NoName" "NoName.__init__" "LookupError.__new__" bmK i_NoName ["name"] C_NoName fi_NoName di_NoName
  kb_NoName_0 : ∀ (s : Shared) (a : Addr) (ws : List Value), ws.length = 1 → BindsTo s di_NoName ⟨[.ref a], (["name"] : List Str).zip ws⟩ ((("self" : Str) :: (["name"] : List Str)).zip (.ref a :: perm [0] ws))
  C_NoState : Addr
  fi_NoState : Addr
  di_NoState : FuncData
  R_NoState : CRaw K mg "NoState" "NoState.__init__" "LookupError.__new__" bmL i_NoState ["name"] C_NoState fi_NoState di_NoState
  kb_NoState_0 : ∀ (s : Shared) (a : Addr) (ws : List Value), ws.length = 1 → BindsTo s di_NoState ⟨[.ref a], (["name"] : List Str).zip ws⟩ ((("self" : Str) :: (["name"] : List Str)).zip (.ref a :: perm [0] ws))
  C_NoGoing : Addr
  fi_NoGoing : Addr
  di_NoGoing : FuncData
  R_NoGoing : CRaw K mg "NoGoing" "NoGoing.__init__" "LookupError.__new__" bmL i_NoGoing ["name"] C_NoGoing fi_NoGoing di_NoGoing
  kb_NoGoing_0 : ∀ (s : Shared) (a : Addr) (ws : List Value), ws.length = 1 → BindsTo s di_NoGoing ⟨[.ref a], (["name"] : List Str).zip ws⟩ ((("self" : Str) :: (["name"] : List Str)).zip (.ref a :: perm [0] ws))
  C_NoHall : Addr
  fi_NoHall : Addr
  di_NoHall : FuncData
  R_NoHall : CRaw K mg "NoHall" "NoHall.__init__" "LookupError.__new__" bmL i_NoHall [] C_NoHall fi_NoHall di_NoHall
  C_Full : Addr
  fi_Full : Addr
  di_Full : FuncData
  R_Full : CRaw K mg "Full" "Full.__init__" "OverflowError.__new__" bmO i_Full [] C_Full fi_Full di_Full
  C_TooMany : Addr
  fi_TooMany : Addr
  di_TooMany : FuncData
  R_TooMany : CRaw K mg "TooMany" "TooMany.__init__" "OverflowError.__new__" bmO i_TooMany ["many"] C_TooMany fi_TooMany di_TooMany
  kb_TooMany_0 : ∀ (s : Shared) (a : Addr) (ws : List Value), ws.length = 1 → BindsTo s di_TooMany ⟨[.ref a], (["many"] : List Str).zip ws⟩ ((("self" : Str) :: (["many"] : List Str)).zip (.ref a :: perm [0] ws))
  C_Twin : Addr
  fi_Twin : Addr
  di_Twin : FuncData
  R_Twin : CRaw K mg "Twin" "Twin.__init__" "RuntimeError.__new__" bmR i_Twin ["name"] C_Twin fi_Twin di_Twin
  kb_Twin_0 : ∀ (s : Shared) (a : Addr) (ws : List Value), ws.length = 1 → BindsTo s di_Twin ⟨[.ref a], (["name"] : List Str).zip ws⟩ ((("self" : Str) :: (["name"] : List Str)).zip (.ref a :: perm [0] ws))
  C_Busy : Addr
  fi_Busy : Addr
  di_Busy : FuncData
  R_Busy : CRaw K mg "Busy" "Busy.__init__" "RuntimeError.__new__" bmR i_Busy [] C_Busy fi_Busy di_Busy
theorem txtx_mk {K : PySem.W.Frag} {h : Heap} {mg : Str → Option Value} {w : World} (X : K.In h) (G : h.Ns mainGlobals mg) (T : Txt K mg)
    {C_NoDeed fi_NoDeed : Addr} {qn_NoDeed : Str} {N_NoDeed : Addr} {bs_NoDeed : List Value} {sn_NoDeed : List Str} {sub_NoDeed : List Value} {ab_NoDeed : Bool} {col_NoDeed : Option Bool} {dd_NoDeed : Option Addr} {e0_NoDeed e1_NoDeed e2_NoDeed e3_NoDeed e5_NoDeed : Option Value} {od_NoDeed an_NoDeed : Option Addr} {sl_NoDeed : Array (Option Value)} {oc_NoDeed kV_NoDeed dc_NoDeed pm_NoDeed cd_NoDeed ct_NoDeed : Value}
    (hC_NoDeed : PySem.W.nsIn K mainGlobals "NoDeed" = some (some (.ref C_NoDeed)))
    (hL_NoDeed : K.lookup C_NoDeed = some (excClassObj "NoDeed" qn_NoDeed C_NoDeed N_NoDeed bs_NoDeed bmV true sn_NoDeed sub_NoDeed ab_NoDeed col_NoDeed dd_NoDeed e0_NoDeed e1_NoDeed e2_NoDeed e3_NoDeed e5_NoDeed "ValueError.__new__"))
    (ha_NoDeed : PySem.W.findIn K (.ref C_NoDeed) "__setattr__" = some (some (.builtin "object.__setattr__")))
    (hb_NoDeed : PySem.W.findIn K (.ref C_NoDeed) "__getattribute__" = some (some (.builtin "BaseException.__getattribute__")))
    (hc_NoDeed : PySem.W.findIn K (.ref C_NoDeed) "__getattr__" = some none)
    (hd_NoDeed : PySem.W.findIn K (.ref C_NoDeed) "__class__" = some (some (.builtin "object.__class__")))
    (hi_NoDeed : PySem.W.findIn K (.ref C_NoDeed) "__init__" = some (some (.ref fi_NoDeed)))
    (ht_NoDeed : PySem.W.typeIn K (.ref fi_NoDeed) = some (.type "function"))
    (hl_NoDeed : K.lookup fi_NoDeed = some ⟨oc_NoDeed, od_NoDeed, .func (PySem.W.fnOf "__init__" "NoDeed.__init__" (defArgs i_NoDeed) (defBody i_NoDeed) (defScope i_NoDeed) .none kV_NoDeed dc_NoDeed pm_NoDeed an_NoDeed cd_NoDeed ct_NoDeed), sl_NoDeed⟩)
    (hq_NoDeed : PySem.W.codeIn K cd_NoDeed "NoDeed.__init__" = true)
    (hk_NoDeed : PySem.W.keepIn K (.ref fi_NoDeed) = true)
    (hf_NoDeed_part : PySem.W.findIn K (.ref C_NoDeed) "part" = some none)
    {C_NoText fi_NoText : Addr} {qn_NoText : Str} {N_NoText : Addr} {bs_NoText : List Value} {sn_NoText : List Str} {sub_NoText : List Value} {ab_NoText : Bool} {col_NoText : Option Bool} {dd_NoText : Option Addr} {e0_NoText e1_NoText e2_NoText e3_NoText e5_NoText : Option Value} {od_NoText an_NoText : Option Addr} {sl_NoText : Array (Option Value)} {oc_NoText kV_NoText dc_NoText pm_NoText cd_NoText ct_NoText : Value}
    (hC_NoText : PySem.W.nsIn K mainGlobals "NoText" = some (some (.ref C_NoText)))
    (hL_NoText : K.lookup C_NoText = some (excClassObj "NoText" qn_NoText C_NoText N_NoText bs_NoText bmV true sn_NoText sub_NoText ab_NoText col_NoText dd_NoText e0_NoText e1_NoText e2_NoText e3_NoText e5_NoText "ValueError.__new__"))
    (ha_NoText : PySem.W.findIn K (.ref C_NoText) "__setattr__" = some (some (.builtin "object.__setattr__")))
    (hb_NoText : PySem.W.findIn K (.ref C_NoText) "__getattribute__" = some (some (.builtin "BaseException.__getattribute__")))
    (hc_NoText : PySem.W.findIn K (.ref C_NoText) "__getattr__" = some none)
    (hd_NoText : PySem.W.findIn K (.ref C_NoText) "__class__" = some (some (.builtin "object.__class__")))
    (hi_NoText : PySem.W.findIn K (.ref C_NoText) "__init__" = some (some (.ref fi_NoText)))
    (ht_NoText : PySem.W.typeIn K (.ref fi_NoText) = some (.type "function"))
    (hl_NoText : K.lookup fi_NoText = some ⟨oc_NoText, od_NoText, .func (PySem.W.fnOf "__init__" "NoText.__init__" (defArgs i_NoText) (defBody i_NoText) (defScope i_NoText) .none kV_NoText dc_NoText pm_NoText an_NoText cd_NoText ct_NoText), sl_NoText⟩)
    (hq_NoText : PySem.W.codeIn K cd_NoText "NoText.__init__" = true)
    (hk_NoText : PySem.W.keepIn K (.ref fi_NoText) = true)
    (hf_NoText_part : PySem.W.findIn K (.ref C_NoText) "part" = some none)
    {C_NoStates fi_NoStates : Addr} {qn_NoStates : Str} {N_NoStates : Addr} {bs_NoStates : List Value} {sn_NoStates : List Str} {sub_NoStates : List Value} {ab_NoStates : Bool} {col_NoStates : Option Bool} {dd_NoStates : Option Addr} {e0_NoStates e1_NoStates e2_NoStates e3_NoStates e5_NoStates : Option Value} {od_NoStates an_NoStates : Option Addr} {sl_NoStates : Array (Option Value)} {oc_NoStates kV_NoStates dc_NoStates pm_NoStates cd_NoStates ct_NoStates : Value}
    (hC_NoStates : PySem.W.nsIn K mainGlobals "NoStates" = some (some (.ref C_NoStates)))
    (hL_NoStates : K.lookup C_NoStates = some (excClassObj "NoStates" qn_NoStates C_NoStates N_NoStates bs_NoStates bmV true sn_NoStates sub_NoStates ab_NoStates col_NoStates dd_NoStates e0_NoStates e1_NoStates e2_NoStates e3_NoStates e5_NoStates "ValueError.__new__"))
    (ha_NoStates : PySem.W.findIn K (.ref C_NoStates) "__setattr__" = some (some (.builtin "object.__setattr__")))
    (hb_NoStates : PySem.W.findIn K (.ref C_NoStates) "__getattribute__" = some (some (.builtin "BaseException.__getattribute__")))
    (hc_NoStates : PySem.W.findIn K (.ref C_NoStates) "__getattr__" = some none)
    (hd_NoStates : PySem.W.findIn K (.ref C_NoStates) "__class__" = some (some (.builtin "object.__class__")))
    (hi_NoStates : PySem.W.findIn K (.ref C_NoStates) "__init__" = some (some (.ref fi_NoStates)))
    (ht_NoStates : PySem.W.typeIn K (.ref fi_NoStates) = some (.type "function"))
    (hl_NoStates : K.lookup fi_NoStates = some ⟨oc_NoStates, od_NoStates, .func (PySem.W.fnOf "__init__" "NoStates.__init__" (defArgs i_NoStates) (defBody i_NoStates) (defScope i_NoStates) .none kV_NoStates dc_NoStates pm_NoStates an_NoStates cd_NoStates ct_NoStates), sl_NoStates⟩)
    (hq_NoStates : PySem.W.codeIn K cd_NoStates "NoStates.__init__" = true)
    (hk_NoStates : PySem.W.keepIn K (.ref fi_NoStates) = true)
    (hf_NoStates_number : PySem.W.findIn K (.ref C_NoStates) "number" = some none)
    {C_NoPaper fi_NoPaper : Addr} {qn_NoPaper : Str} {N_NoPaper : Addr} {bs_NoPaper : List Value} {sn_NoPaper : List Str} {sub_NoPaper : List Value} {ab_NoPaper : Bool} {col_NoPaper : Option Bool} {dd_NoPaper : Option Addr} {e0_NoPaper e1_NoPaper e2_NoPaper e3_NoPaper e5_NoPaper : Option Value} {od_NoPaper an_NoPaper : Option Addr} {sl_NoPaper : Array (Option Value)} {oc_NoPaper kV_NoPaper dc_NoPaper pm_NoPaper cd_NoPaper ct_NoPaper : Value}
    (hC_NoPaper : PySem.W.nsIn K mainGlobals "NoPaper" = some (some (.ref C_NoPaper)))
    (hL_NoPaper : K.lookup C_NoPaper = some (excClassObj "NoPaper" qn_NoPaper C_NoPaper N_NoPaper bs_NoPaper bmV true sn_NoPaper sub_NoPaper ab_NoPaper col_NoPaper dd_NoPaper e0_NoPaper e1_NoPaper e2_NoPaper e3_NoPaper e5_NoPaper "ValueError.__new__"))
    (ha_NoPaper : PySem.W.findIn K (.ref C_NoPaper) "__setattr__" = some (some (.builtin "object.__setattr__")))
    (hb_NoPaper : PySem.W.findIn K (.ref C_NoPaper) "__getattribute__" = some (some (.builtin "BaseException.__getattribute__")))
    (hc_NoPaper : PySem.W.findIn K (.ref C_NoPaper) "__getattr__" = some none)
    (hd_NoPaper : PySem.W.findIn K (.ref C_NoPaper) "__class__" = some (some (.builtin "object.__class__")))
    (hi_NoPaper : PySem.W.findIn K (.ref C_NoPaper) "__init__" = some (some (.ref fi_NoPaper)))
    (ht_NoPaper : PySem.W.typeIn K (.ref fi_NoPaper) = some (.type "function"))
    (hl_NoPaper : K.lookup fi_NoPaper = some ⟨oc_NoPaper, od_NoPaper, .func (PySem.W.fnOf "__init__" "NoPaper.__init__" (defArgs i_NoPaper) (defBody i_NoPaper) (defScope i_NoPaper) .none kV_NoPaper dc_NoPaper pm_NoPaper an_NoPaper cd_NoPaper ct_NoPaper), sl_NoPaper⟩)
    (hq_NoPaper : PySem.W.codeIn K cd_NoPaper "NoPaper.__init__" = true)
    (hk_NoPaper : PySem.W.keepIn K (.ref fi_NoPaper) = true)
    {C_NoBegin fi_NoBegin : Addr} {qn_NoBegin : Str} {N_NoBegin : Addr} {bs_NoBegin : List Value} {sn_NoBegin : List Str} {sub_NoBegin : List Value} {ab_NoBegin : Bool} {col_NoBegin : Option Bool} {dd_NoBegin : Option Addr} {e0_NoBegin e1_NoBegin e2_NoBegin e3_NoBegin e5_NoBegin : Option Value} {od_NoBegin an_NoBegin : Option Addr} {sl_NoBegin : Array (Option Value)} {oc_NoBegin kV_NoBegin dc_NoBegin pm_NoBegin cd_NoBegin ct_NoBegin : Value}
    (hC_NoBegin : PySem.W.nsIn K mainGlobals "NoBegin" = some (some (.ref C_NoBegin)))
    (hL_NoBegin : K.lookup C_NoBegin = some (excClassObj "NoBegin" qn_NoBegin C_NoBegin N_NoBegin bs_NoBegin bmV true sn_NoBegin sub_NoBegin ab_NoBegin col_NoBegin dd_NoBegin e0_NoBegin e1_NoBegin e2_NoBegin e3_NoBegin e5_NoBegin "ValueError.__new__"))
    (ha_NoBegin : PySem.W.findIn K (.ref C_NoBegin) "__setattr__" = some (some (.builtin "object.__setattr__")))
    (hb_NoBegin : PySem.W.findIn K (.ref C_NoBegin) "__getattribute__" = some (some (.builtin "BaseException.__getattribute__")))
    (hc_NoBegin : PySem.W.findIn K (.ref C_NoBegin) "__getattr__" = some none)
    (hd_NoBegin : PySem.W.findIn K (.ref C_NoBegin) "__class__" = some (some (.builtin "object.__class__")))
    (hi_NoBegin : PySem.W.findIn K (.ref C_NoBegin) "__init__" = some (some (.ref fi_NoBegin)))
    (ht_NoBegin : PySem.W.typeIn K (.ref fi_NoBegin) = some (.type "function"))
    (hl_NoBegin : K.lookup fi_NoBegin = some ⟨oc_NoBegin, od_NoBegin, .func (PySem.W.fnOf "__init__" "NoBegin.__init__" (defArgs i_NoBegin) (defBody i_NoBegin) (defScope i_NoBegin) .none kV_NoBegin dc_NoBegin pm_NoBegin an_NoBegin cd_NoBegin ct_NoBegin), sl_NoBegin⟩)
    (hq_NoBegin : PySem.W.codeIn K cd_NoBegin "NoBegin.__init__" = true)
    (hk_NoBegin : PySem.W.keepIn K (.ref fi_NoBegin) = true)
    {C_NoRow fi_NoRow : Addr} {qn_NoRow : Str} {N_NoRow : Addr} {bs_NoRow : List Value} {sn_NoRow : List Str} {sub_NoRow : List Value} {ab_NoRow : Bool} {col_NoRow : Option Bool} {dd_NoRow : Option Addr} {e0_NoRow e1_NoRow e2_NoRow e3_NoRow e5_NoRow : Option Value} {od_NoRow an_NoRow : Option Addr} {sl_NoRow : Array (Option Value)} {oc_NoRow kV_NoRow dc_NoRow pm_NoRow cd_NoRow ct_NoRow : Value}
    (hC_NoRow : PySem.W.nsIn K mainGlobals "NoRow" = some (some (.ref C_NoRow)))
    (hL_NoRow : K.lookup C_NoRow = some (excClassObj "NoRow" qn_NoRow C_NoRow N_NoRow bs_NoRow bmV true sn_NoRow sub_NoRow ab_NoRow col_NoRow dd_NoRow e0_NoRow e1_NoRow e2_NoRow e3_NoRow e5_NoRow "ValueError.__new__"))
    (ha_NoRow : PySem.W.findIn K (.ref C_NoRow) "__setattr__" = some (some (.builtin "object.__setattr__")))
    (hb_NoRow : PySem.W.findIn K (.ref C_NoRow) "__getattribute__" = some (some (.builtin "BaseException.__getattribute__")))
    (hc_NoRow : PySem.W.findIn K (.ref C_NoRow) "__getattr__" = some none)
    (hd_NoRow : PySem.W.findIn K (.ref C_NoRow) "__class__" = some (some (.builtin "object.__class__")))
    (hi_NoRow : PySem.W.findIn K (.ref C_NoRow) "__init__" = some (some (.ref fi_NoRow)))
    (ht_NoRow : PySem.W.typeIn K (.ref fi_NoRow) = some (.type "function"))
    (hl_NoRow : K.lookup fi_NoRow = some ⟨oc_NoRow, od_NoRow, .func (PySem.W.fnOf "__init__" "NoRow.__init__" (defArgs i_NoRow) (defBody i_NoRow) (defScope i_NoRow) .none kV_NoRow dc_NoRow pm_NoRow an_NoRow cd_NoRow ct_NoRow), sl_NoRow⟩)
    (hq_NoRow : PySem.W.codeIn K cd_NoRow "NoRow.__init__" = true)
    (hk_NoRow : PySem.W.keepIn K (.ref fi_NoRow) = true)
    (hf_NoRow_number : PySem.W.findIn K (.ref C_NoRow) "number" = some none)
    {C_NoHouse fi_NoHouse : Addr} {qn_NoHouse : Str} {N_NoHouse : Addr} {bs_NoHouse : List Value} {sn_NoHouse : List Str} {sub_NoHouse : List Value} {ab_NoHouse : Bool} {col_NoHouse : Option Bool} {dd_NoHouse : Option Addr} {e0_NoHouse e1_NoHouse e2_NoHouse e3_NoHouse e5_NoHouse : Option Value} {od_NoHouse an_NoHouse : Option Addr} {sl_NoHouse : Array (Option Value)} {oc_NoHouse kV_NoHouse dc_NoHouse pm_NoHouse cd_NoHouse ct_NoHouse : Value}
    (hC_NoHouse : PySem.W.nsIn K mainGlobals "NoHouse" = some (some (.ref C_NoHouse)))
    (hL_NoHouse : K.lookup C_NoHouse = some (excClassObj "NoHouse" qn_NoHouse C_NoHouse N_NoHouse bs_NoHouse bmV true sn_NoHouse sub_NoHouse ab_NoHouse col_NoHouse dd_NoHouse e0_NoHouse e1_NoHouse e2_NoHouse e3_NoHouse e5_NoHouse "ValueError.__new__"))
    (ha_NoHouse : PySem.W.findIn K (.ref C_NoHouse) "__setattr__" = some (some (.builtin "object.__setattr__")))
    (hb_NoHouse : PySem.W.findIn K (.ref C_NoHouse) "__getattribute__" = some (some (.builtin "BaseException.__getattribute__")))
    (hc_NoHouse : PySem.W.findIn K (.ref C_NoHouse) "__getattr__" = some none)
    (hd_NoHouse : PySem.W.findIn K (.ref C_NoHouse) "__class__" = some (some (.builtin "object.__class__")))
    (hi_NoHouse : PySem.W.findIn K (.ref C_NoHouse) "__init__" = some (some (.ref fi_NoHouse)))
    (ht_NoHouse : PySem.W.typeIn K (.ref fi_NoHouse) = some (.type "function"))
    (hl_NoHouse : K.lookup fi_NoHouse = some ⟨oc_NoHouse, od_NoHouse, .func (PySem.W.fnOf "__init__" "NoHouse.__init__" (defArgs i_NoHouse) (defBody i_NoHouse) (defScope i_NoHouse) .none kV_NoHouse dc_NoHouse pm_NoHouse an_NoHouse cd_NoHouse ct_NoHouse), sl_NoHouse⟩)
    (hq_NoHouse : PySem.W.codeIn K cd_NoHouse "NoHouse.__init__" = true)
    (hk_NoHouse : PySem.W.keepIn K (.ref fi_NoHouse) = true)
    (hf_NoHouse_house : PySem.W.findIn K (.ref C_NoHouse) "house" = some none)
    {C_NoHouses fi_NoHouses : Addr} {qn_NoHouses : Str} {N_NoHouses : Addr} {bs_NoHouses : List Value} {sn_NoHouses : List Str} {sub_NoHouses : List Value} {ab_NoHouses : Bool} {col_NoHouses : Option Bool} {dd_NoHouses : Option Addr} {e0_NoHouses e1_NoHouses e2_NoHouses e3_NoHouses e5_NoHouses : Option Value} {od_NoHouses an_NoHouses : Option Addr} {sl_NoHouses : Array (Option Value)} {oc_NoHouses kV_NoHouses dc_NoHouses pm_NoHouses cd_NoHouses ct_NoHouses : Value}
    (hC_NoHouses : PySem.W.nsIn K mainGlobals "NoHouses" = some (some (.ref C_NoHouses)))
    (hL_NoHouses : K.lookup C_NoHouses = some (excClassObj "NoHouses" qn_NoHouses C_NoHouses N_NoHouses bs_NoHouses bmV true sn_NoHouses sub_NoHouses ab_NoHouses col_NoHouses dd_NoHouses e0_NoHouses e1_NoHouses e2_NoHouses e3_NoHouses e5_NoHouses "ValueError.__new__"))
    (ha_NoHouses : PySem.W.findIn K (.ref C_NoHouses) "__setattr__" = some (some (.builtin "object.__setattr__")))
    (hb_NoHouses : PySem.W.findIn K (.ref C_NoHouses) "__getattribute__" = some (some (.builtin "BaseException.__getattribute__")))
    (hc_NoHouses : PySem.W.findIn K (.ref C_NoHouses) "__getattr__" = some none)
    (hd_NoHouses : PySem.W.findIn K (.ref C_NoHouses) "__class__" = some (some (.builtin "object.__class__")))
    (hi_NoHouses : PySem.W.findIn K (.ref C_NoHouses) "__init__" = some (some (.ref fi_NoHouses)))
    (ht_NoHouses : PySem.W.typeIn K (.ref fi_NoHouses) = some (.type "function"))
    (hl_NoHouses : K.lookup fi_NoHouses = some ⟨oc_NoHouses, od_NoHouses, .func (PySem.W.fnOf "__init__" "NoHouses.__init__" (defArgs i_NoHouses) (defBody i_NoHouses) (defScope i_NoHouses) .none kV_NoHouses dc_NoHouses pm_NoHouses an_NoHouses cd_NoHouses ct_NoHouses), sl_NoHouses⟩)
    (hq_NoHouses : PySem.W.codeIn K cd_NoHouses "NoHouses.__init__" = true)
    (hk_NoHouses : PySem.W.keepIn K (.ref fi_NoHouses) = true)
    (hf_NoHouses_number : PySem.W.findIn K (.ref C_NoHouses) "number" = some none)
    {C_Barred fi_Barred : Addr} {qn_Barred : Str} {N_Barred : Addr} {bs_Barred : List Value} {sn_Barred : List Str} {sub_Barred : List Value} {ab_Barred : Bool} {col_Barred : Option Bool} {dd_Barred : Option Addr} {e0_Barred e1_Barred e2_Barred e3_Barred e5_Barred : Option Value} {od_Barred an_Barred : Option Addr} {sl_Barred : Array (Option Value)} {oc_Barred kV_Barred dc_Barred pm_Barred cd_Barred ct_Barred : Value}
    (hC_Barred : PySem.W.nsIn K mainGlobals "Barred" = some (some (.ref C_Barred)))
    (hL_Barred : K.lookup C_Barred = some (excClassObj "Barred" qn_Barred C_Barred N_Barred bs_Barred bmV true sn_Barred sub_Barred ab_Barred col_Barred dd_Barred e0_Barred e1_Barred e2_Barred e3_Barred e5_Barred "ValueError.__new__"))
    (ha_Barred : PySem.W.findIn K (.ref C_Barred) "__setattr__" = some (some (.builtin "object.__setattr__")))
    (hb_Barred : PySem.W.findIn K (.ref C_Barred) "__getattribute__" = some (some (.builtin "BaseException.__getattribute__")))
    (hc_Barred : PySem.W.findIn K (.ref C_Barred) "__getattr__" = some none)
    (hd_Barred : PySem.W.findIn K (.ref C_Barred) "__class__" = some (some (.builtin "object.__class__")))
    (hi_Barred : PySem.W.findIn K (.ref C_Barred) "__init__" = some (some (.ref fi_Barred)))
    (ht_Barred : PySem.W.typeIn K (.ref fi_Barred) = some (.type "function"))
    (hl_Barred : K.lookup fi_Barred = some ⟨oc_Barred, od_Barred, .func (PySem.W.fnOf "__init__" "Barred.__init__" (defArgs i_Barred) (defBody i_Barred) (defScope i_Barred) .none kV_Barred dc_Barred pm_Barred an_Barred cd_Barred ct_Barred), sl_Barred⟩)
    (hq_Barred : PySem.W.codeIn K cd_Barred "Barred.__init__" = true)
    (hk_Barred : PySem.W.keepIn K (.ref fi_Barred) = true)
    (hf_Barred_where : PySem.W.findIn K (.ref C_Barred) "where" = some none)
    (hf_Barred_rule : PySem.W.findIn K (.ref C_Barred) "rule" = some none)
    {C_NoName fi_NoName : Addr} {qn_NoName : Str} {N_NoName : Addr} {bs_NoName : List Value} {sn_NoName : List Str} {sub_NoName : List Value} {ab_NoName : Bool} {col_NoName : Option Bool} {dd_NoName : Option Addr} {e0_NoName e1_NoName e2_NoName e3_NoName e5_NoName : Option Value} {od_NoName an_NoName : Option Addr} {sl_NoName : Array (Option Value)} {oc_NoName kV_NoName dc_NoName pm_NoName cd_NoName ct_NoName : Value}
    (hC_NoName : PySem.W.nsIn K mainGlobals "NoName" = some (some (.ref C_NoName)))
    (hL_NoName : K.lookup C_NoName = some (excClassObj "NoName" qn_NoName C_NoName N_NoName bs_NoName bmK true sn_NoName sub_NoName ab_NoName col_NoName dd_NoName e0_NoName e1_NoName e2_NoName e3_NoName e5_NoName "LookupError.__new__"))
    (ha_NoName : PySem.W.findIn K (.ref C_NoName) "__setattr__" = some (some (.builtin "object.__setattr__")))
    (hb_NoName : PySem.W.findIn K (.ref C_NoName) "__getattribute__" = some (some (.builtin "BaseException.__getattribute__")))
    (hc_NoName : PySem.W.findIn K (.ref C_NoName) "__getattr__" = some none)
    (hd_NoName : PySem.W.findIn K (.ref C_NoName) "__class__" = some (some (.builtin "object.__class__")))
    (hi_NoName : PySem.W.findIn K (.ref C_NoName) "__init__" = some (some (.ref fi_NoName)))
    (ht_NoName : PySem.W.typeIn K (.ref fi_NoName) = some (.type "function"))
    (hl_NoName : K.lookup fi_NoName = some ⟨oc_NoName, od_NoName, .func (PySem.W.fnOf "__init__" "NoName.__init__" (defArgs i_NoName) (defBody i_NoName) (defScope i_NoName) .none kV_NoName dc_NoName pm_NoName an_NoName cd_NoName ct_NoName), sl_NoName⟩)
    (hq_NoName : PySem.W.codeIn K cd_NoName "NoName.__init__" = true)
    (hk_NoName : PySem.W.keepIn K (.ref fi_NoName) = true)
    (hf_NoName_name : PySem.W.findIn K (.ref C_NoName) "name" = some none)
    {C_NoState fi_NoState : Addr} {qn_NoState : Str} {N_NoState : Addr} {bs_NoState : List Value} {sn_NoState : List Str} {sub_NoState : List Value} {ab_NoState : Bool} {col_NoState : Option Bool} {dd_NoState : Option Addr} {e0_NoState e1_NoState e2_NoState e3_NoState e5_NoState : Option Value} {od_NoState an_NoState : Option Addr} {sl_NoState : Array (Option Value)} {oc_NoState kV_NoState dc_NoState pm_NoState cd_NoState ct_NoState : Value}
    (hC_NoState : PySem.W.nsIn K mainGlobals "NoState" = some (some (.ref C_NoState)))
    (hL_NoState : K.lookup C_NoState = some (excClassObj "NoState" qn_NoState C_NoState N_NoState bs_NoState bmL true sn_NoState sub_NoState ab_NoState col_NoState dd_NoState e0_NoState e1_NoState e2_NoState e3_NoState e5_NoState "LookupError.__new__"))
    (ha_NoState : PySem.W.findIn K (.ref C_NoState) "__setattr__" = some (some (.builtin "object.__setattr__")))
    (hb_NoState : PySem.W.findIn K (.ref C_NoState) "__getattribute__" = some (some (.builtin "BaseException.__getattribute__")))
    (hc_NoState : PySem.W.findIn K (.ref C_NoState) "__getattr__" = some none)
    (hd_NoState : PySem.W.findIn K (.ref C_NoState) "__class__" = some (some (.builtin "object.__class__")))
    (hi_NoState : PySem.W.findIn K (.ref C_NoState) "__init__" = some (some (.ref fi_NoState)))
    (ht_NoState : PySem.W.typeIn K (.ref fi_NoState) = some (.type "function"))
    (hl_NoState : K.lookup fi_NoState = some ⟨oc_NoState, od_NoState, .func (PySem.W.fnOf "__init__" "NoState.__init__" (defArgs i_NoState) (defBody i_NoState) (defScope i_NoState) .none kV_NoState dc_NoState pm_NoState an_NoState cd_NoState ct_NoState), sl_NoState⟩)
    (hq_NoState : PySem.W.codeIn K cd_NoState "NoState.__init__" = true)
    (hk_NoState : PySem.W.keepIn K (.ref fi_NoState) = true)
    (hf_NoState_name : PySem.W.findIn K (.ref C_NoState) "name" = some none)
    {C_NoGoing fi_NoGoing : Addr} {qn_NoGoing : Str} {N_NoGoing : Addr} {bs_NoGoing : List Value} {sn_NoGoing : List Str} {sub_NoGoing : List Value} {ab_NoGoing : Bool} {col_NoGoing : Option Bool} {dd_NoGoing : Option Addr} {e0_NoGoing e1_NoGoing e2_NoGoing e3_NoGoing e5_NoGoing : Option Value} {od_NoGoing an_NoGoing : Option Addr} {sl_NoGoing : Array (Option Value)} {oc_NoGoing kV_NoGoing dc_NoGoing pm_NoGoing cd_NoGoing ct_NoGoing : Value}
    (hC_NoGoing : PySem.W.nsIn K mainGlobals "NoGoing" = some (some (.ref C_NoGoing)))
    (hL_NoGoing : K.lookup C_NoGoing = some (excClassObj "NoGoing" qn_NoGoing C_NoGoing N_NoGoing bs_NoGoing bmL true sn_NoGoing sub_NoGoing ab_NoGoing col_NoGoing dd_NoGoing e0_NoGoing e1_NoGoing e2_NoGoing e3_NoGoing e5_NoGoing "LookupError.__new__"))
    (ha_NoGoing : PySem.W.findIn K (.ref C_NoGoing) "__setattr__" = some (some (.builtin "object.__setattr__")))
    (hb_NoGoing : PySem.W.findIn K (.ref C_NoGoing) "__getattribute__" = some (some (.builtin "BaseException.__getattribute__")))
    (hc_NoGoing : PySem.W.findIn K (.ref C_NoGoing) "__getattr__" = some none)
    (hd_NoGoing : PySem.W.findIn K (.ref C_NoGoing) "__class__" = some (some (.builtin "object.__class__")))
    (hi_NoGoing : PySem.W.findIn K (.ref C_NoGoing) "__init__" = some (some (.ref fi_NoGoing)))
    (ht_NoGoing : PySem.W.typeIn K (.ref fi_NoGoing) = some (.type "function"))
    (hl_NoGoing : K.lookup fi_NoGoing = some ⟨oc_NoGoing, od_NoGoing, .func (PySem.W.fnOf "__init__" "NoGoing.__init__" (defArgs i_NoGoing) (defBody i_NoGoing) (defScope i_NoGoing) .none kV_NoGoing dc_NoGoing pm_NoGoing an_NoGoing cd_NoGoing ct_NoGoing), sl_NoGoing⟩)
    (hq_NoGoing : PySem.W.codeIn K cd_NoGoing "NoGoing.__init__" = true)
    (hk_NoGoing : PySem.W.keepIn K (.ref fi_NoGoing) = true)
    (hf_NoGoing_name : PySem.W.findIn K (.ref C_NoGoing) "name" = some none)
    {C_NoHall fi_NoHall : Addr} {qn_NoHall : Str} {N_NoHall : Addr} {bs_NoHall : List Value} {sn_NoHall : List Str} {sub_NoHall : List Value} {ab_NoHall : Bool} {col_NoHall : Option Bool} {dd_NoHall : Option Addr} {e0_NoHall e1_NoHall e2_NoHall e3_NoHall e5_NoHall : Option Value} {od_NoHall an_NoHall : Option Addr} {sl_NoHall : Array (Option Value)} {oc_NoHall kV_NoHall dc_NoHall pm_NoHall cd_NoHall ct_NoHall : Value}
    (hC_NoHall : PySem.W.nsIn K mainGlobals "NoHall" = some (some (.ref C_NoHall)))
    (hL_NoHall : K.lookup C_NoHall = some (excClassObj "NoHall" qn_NoHall C_NoHall N_NoHall bs_NoHall bmL true sn_NoHall sub_NoHall ab_NoHall col_NoHall dd_NoHall e0_NoHall e1_NoHall e2_NoHall e3_NoHall e5_NoHall "LookupError.__new__"))
    (ha_NoHall : PySem.W.findIn K (.ref C_NoHall) "__setattr__" = some (some (.builtin "object.__setattr__")))
    (hb_NoHall : PySem.W.findIn K (.ref C_NoHall) "__getattribute__" = some (some (.builtin "BaseException.__getattribute__")))
    (hc_NoHall : PySem.W.findIn K (.ref C_NoHall) "__getattr__" = some none)
    (hd_NoHall : PySem.W.findIn K (.ref C_NoHall) "__class__" = some (some (.builtin "object.__class__")))
    (hi_NoHall : PySem.W.findIn K (.ref C_NoHall) "__init__" = some (some (.ref fi_NoHall)))
    (ht_NoHall : PySem.W.typeIn K (.ref fi_NoHall) = some (.type "function"))
    (hl_NoHall : K.lookup fi_NoHall = some ⟨oc_NoHall, od_NoHall, .func (PySem.W.fnOf "__init__" "NoHall.__init__" (defArgs i_NoHall) (defBody i_NoHall) (defScope i_NoHall) .none kV_NoHall dc_NoHall pm_NoHall an_NoHall cd_NoHall ct_NoHall), sl_NoHall⟩)
    (hq_NoHall : PySem.W.codeIn K cd_NoHall "NoHall.__init__" = true)
    (hk_NoHall : PySem.W.keepIn K (.ref fi_NoHall) = true)
    {C_Full fi_Full : Addr} {qn_Full : Str} {N_Full : Addr} {bs_Full : List Value} {sn_Full : List Str} {sub_Full : List Value} {ab_Full : Bool} {col_Full : Option Bool} {dd_Full : Option Addr} {e0_Full e1_Full e2_Full e3_Full e5_Full : Option Value} {od_Full an_Full : Option Addr} {sl_Full : Array (Option Value)} {oc_Full kV_Full dc_Full pm_Full cd_Full ct_Full : Value}
    (hC_Full : PySem.W.nsIn K mainGlobals "Full" = some (some (.ref C_Full)))
    (hL_Full : K.lookup C_Full = some (excClassObj "Full" qn_Full C_Full N_Full bs_Full bmO true sn_Full sub_Full ab_Full col_Full dd_Full e0_Full e1_Full e2_Full e3_Full e5_Full "OverflowError.__new__"))
    (ha_Full : PySem.W.findIn K (.ref C_Full) "__setattr__" = some (some (.builtin "object.__setattr__")))
    (hb_Full : PySem.W.findIn K (.ref C_Full) "__getattribute__" = some (some (.builtin "BaseException.__getattribute__")))
    (hc_Full : PySem.W.findIn K (.ref C_Full) "__getattr__" = some none)
    (hd_Full : PySem.W.findIn K (.ref C_Full) "__class__" = some (some (.builtin "object.__class__")))
    (hi_Full : PySem.W.findIn K (.ref C_Full) "__init__" = some (some (.ref fi_Full)))
    (ht_Full : PySem.W.typeIn K (.ref fi_Full) = some (.type "function"))
    (hl_Full : K.lookup fi_Full = some ⟨oc_Full, od_Full, .func (PySem.W.fnOf "__init__" "Full.__init__" (defArgs i_Full) (defBody i_Full) (defScope i_Full) .none kV_Full dc_Full pm_Full an_Full cd_Full ct_Full), sl_Full⟩)
    (hq_Full : PySem.W.codeIn K cd_Full "Full.__init__" = true)
    (hk_Full : PySem.W.keepIn K (.ref fi_Full) = true)
    {C_TooMany fi_TooMany : Addr} {qn_TooMany : Str} {N_TooMany : Addr} {bs_TooMany : List Value} {sn_TooMany : List Str} {sub_TooMany : List Value} {ab_TooMany : Bool} {col_TooMany : Option Bool} {dd_TooMany : Option Addr} {e0_TooMany e1_TooMany e2_TooMany e3_TooMany e5_TooMany : Option Value} {od_TooMany an_TooMany : Option Addr} {sl_TooMany : Array (Option Value)} {oc_TooMany kV_TooMany dc_TooMany pm_TooMany cd_TooMany ct_TooMany : Value}
    (hC_TooMany : PySem.W.nsIn K mainGlobals "TooMany" = some (some (.ref C_TooMany)))
    (hL_TooMany : K.lookup C_TooMany = some (excClassObj "TooMany" qn_TooMany C_TooMany N_TooMany bs_TooMany bmO true sn_TooMany sub_TooMany ab_TooMany col_TooMany dd_TooMany e0_TooMany e1_TooMany e2_TooMany e3_TooMany e5_TooMany "OverflowError.__new__"))
    (ha_TooMany : PySem.W.findIn K (.ref C_TooMany) "__setattr__" = some (some (.builtin "object.__setattr__")))
    (hb_TooMany : PySem.W.findIn K (.ref C_TooMany) "__getattribute__" = some (some (.builtin "BaseException.__getattribute__")))
    (hc_TooMany : PySem.W.findIn K (.ref C_TooMany) "__getattr__" = some none)
    (hd_TooMany : PySem.W.findIn K (.ref C_TooMany) "__class__" = some (some (.builtin "object.__class__")))
    (hi_TooMany : PySem.W.findIn K (.ref C_TooMany) "__init__" = some (some (.ref fi_TooMany)))
    (ht_TooMany : PySem.W.typeIn K (.ref fi_TooMany) = some (.type "function"))
    (hl_TooMany : K.lookup fi_TooMany = some ⟨oc_TooMany, od_TooMany, .func (PySem.W.fnOf "__init__" "TooMany.__init__" (defArgs i_TooMany) (defBody i_TooMany) (defScope i_TooMany) .none kV_TooMany dc_TooMany pm_TooMany an_TooMany cd_TooMany ct_TooMany), sl_TooMany⟩)
    (hq_TooMany : PySem.W.codeIn K cd_TooMany "TooMany.__init__" = true)
    (hk_TooMany : PySem.W.keepIn K (.ref fi_TooMany) = true)
    (hf_TooMany_many : PySem.W.findIn K (.ref C_TooMany) "many" = some none)
    {C_Twin fi_Twin : Addr} {qn_Twin : Str} {N_Twin : Addr} {bs_Twin : List Value} {sn_Twin : List Str} {sub_Twin : List Value} {ab_Twin : Bool} {col_Twin : Option Bool} {dd_Twin : Option Addr} {e0_Twin e1_Twin e2_Twin e3_Twin e5_Twin : Option Value} {od_Twin an_Twin : Option Addr} {sl_Twin : Array (Option Value)} {oc_Twin kV_Twin dc_Twin pm_Twin cd_Twin ct_Twin : Value}
    (hC_Twin : PySem.W.nsIn K mainGlobals "Twin" = some (some (.ref C_Twin)))
    (hL_Twin : K.lookup C_Twin = some (excClassObj "Twin" qn_Twin C_Twin N_Twin bs_Twin bmR true sn_Twin sub_Twin ab_Twin col_Twin dd_Twin e0_Twin e1_Twin e2_Twin e3_Twin e5_Twin "RuntimeError.__new__"))
    (ha_Twin : PySem.W.findIn K (.ref C_Twin) "__setattr__" = some (some (.builtin "object.__setattr__")))
    (hb_Twin : PySem.W.findIn K (.ref C_Twin) "__getattribute__" = some (some (.builtin "BaseException.__getattribute__")))
    (hc_Twin : PySem.W.findIn K (.ref C_Twin) "__getattr__" = some none)
    (hd_Twin : PySem.W.findIn K (.ref C_Twin) "__class__" = some (some (.builtin "object.__class__")))
    (hi_Twin : PySem.W.findIn K (.ref C_Twin) "__init__" = some (some (.ref fi_Twin)))
    (ht_Twin : PySem.W.typeIn K (.ref fi_Twin) = some (.type "function"))
    (hl_Twin : K.lookup fi_Twin = some ⟨oc_Twin, od_Twin, .func (PySem.W.fnOf "__init__" "Twin.__init__" (defArgs i_Twin) (defBody i_Twin) (defScope i_Twin) .none kV_Twin dc_Twin pm_Twin an_Twin cd_Twin ct_Twin), sl_Twin⟩)
    (hq_Twin : PySem.W.codeIn K cd_Twin "Twin.__init__" = true)
    (hk_Twin : PySem.W.keepIn K (.ref fi_Twin) = true)
    (hf_Twin_name : PySem.W.findIn K (.ref C_Twin) "name" = some none)
    {C_Busy fi_Busy : Addr} {qn_Busy : Str} {N_Busy : Addr} {bs_Busy : List Value} {sn_Busy : List Str} {sub_Busy : List Value} {ab_Busy : Bool} {col_Busy : Option Bool} {dd_Busy : Option Addr} {e0_Busy e1_Busy e2_Busy e3_Busy e5_Busy : Option Value} {od_Busy an_Busy : Option Addr} {sl_Busy : Array (Option Value)} {oc_Busy kV_Busy dc_Busy pm_Busy cd_Busy ct_Busy : Value}
    (hC_Busy : PySem.W.nsIn K mainGlobals "Busy" = some (some (.ref C_Busy)))
    (hL_Busy : K.lookup C_Busy = some (excClassObj "Busy" qn_Busy C_Busy N_Busy bs_Busy bmR true sn_Busy sub_Busy ab_Busy col_Busy dd_Busy e0_Busy e1_Busy e2_Busy e3_Busy e5_Busy "RuntimeError.__new__"))
    (ha_Busy : PySem.W.findIn K (.ref C_Busy) "__setattr__" = some (some (.builtin "object.__setattr__")))
    (hb_Busy : PySem.W.findIn K (.ref C_Busy) "__getattribute__" = some (some (.builtin "BaseException.__getattribute__")))
    (hc_Busy : PySem.W.findIn K (.ref C_Busy) "__getattr__" = some none)
    (hd_Busy : PySem.W.findIn K (.ref C_Busy) "__class__" = some (some (.builtin "object.__class__")))
    (hi_Busy : PySem.W.findIn K (.ref C_Busy) "__init__" = some (some (.ref fi_Busy)))
    (ht_Busy : PySem.W.typeIn K (.ref fi_Busy) = some (.type "function"))
    (hl_Busy : K.lookup fi_Busy = some ⟨oc_Busy, od_Busy, .func (PySem.W.fnOf "__init__" "Busy.__init__" (defArgs i_Busy) (defBody i_Busy) (defScope i_Busy) .none kV_Busy dc_Busy pm_Busy an_Busy cd_Busy ct_Busy), sl_Busy⟩)
    (hq_Busy : PySem.W.codeIn K cd_Busy "Busy.__init__" = true)
    (hk_Busy : PySem.W.keepIn K (.ref fi_Busy) = true)
    : Nonempty (TxtX K mg w T) := by
  exact ⟨{
    C_NoDeed := C_NoDeed, fi_NoDeed := fi_NoDeed, di_NoDeed := _,
    R_NoDeed := ⟨PySem.W.mg_of X G hC_NoDeed, hC_NoDeed, ⟨_, _, _, _, _, _, _, _, _, _, _, _, _, hL_NoDeed⟩, ha_NoDeed, hb_NoDeed, hc_NoDeed, hd_NoDeed, hi_NoDeed, ht_NoDeed, fun_mk (st := i_NoDeed) hl_NoDeed hq_NoDeed hk_NoDeed, fun f hf => by simp only [List.mem_cons, List.not_mem_nil, or_false] at hf; subst hf; exact hf_NoDeed_part, fun s a ws hl => match ws, hl with | [_], _ => .of_eq rfl⟩,
    kb_NoDeed_0 := fun s a ws hl => match ws, hl with | [_], _ => .of_eq rfl,
    C_NoText := C_NoText, fi_NoText := fi_NoText, di_NoText := _,
    R_NoText := ⟨PySem.W.mg_of X G hC_NoText, hC_NoText, ⟨_, _, _, _, _, _, _, _, _, _, _, _, _, hL_NoText⟩, ha_NoText, hb_NoText, hc_NoText, hd_NoText, hi_NoText, ht_NoText, fun_mk (st := i_NoText) hl_NoText hq_NoText hk_NoText, fun f hf => by simp only [List.mem_cons, List.not_mem_nil, or_false] at hf; subst hf; exact hf_NoText_part, fun s a ws hl => match ws, hl with | [_], _ => .of_eq rfl⟩,
    kb_NoText_0 := fun s a ws hl => match ws, hl with | [_], _ => .of_eq rfl,
    C_NoStates := C_NoStates, fi_NoStates := fi_NoStates, di_NoStates := _,
    R_NoStates := ⟨PySem.W.mg_of X G hC_NoStates, hC_NoStates, ⟨_, _, _, _, _, _, _, _, _, _, _, _, _, hL_NoStates⟩, ha_NoStates, hb_NoStates, hc_NoStates, hd_NoStates, hi_NoStates, ht_NoStates, fun_mk (st := i_NoStates) hl_NoStates hq_NoStates hk_NoStates, fun f hf => by simp only [List.mem_cons, List.not_mem_nil, or_false] at hf; subst hf; exact hf_NoStates_number, fun s a ws hl => match ws, hl with | [_], _ => .of_eq rfl⟩,
    kb_NoStates_0 := fun s a ws hl => match ws, hl with | [_], _ => .of_eq rfl,
    C_NoPaper := C_NoPaper, fi_NoPaper := fi_NoPaper, di_NoPaper := _,
    R_NoPaper := ⟨PySem.W.mg_of X G hC_NoPaper, hC_NoPaper, ⟨_, _, _, _, _, _, _, _, _, _, _, _, _, hL_NoPaper⟩, ha_NoPaper, hb_NoPaper, hc_NoPaper, hd_NoPaper, hi_NoPaper, ht_NoPaper, fun_mk (st := i_NoPaper) hl_NoPaper hq_NoPaper hk_NoPaper, nofun, fun s a ws hl => match ws, hl with | [], _ => .of_eq rfl⟩,
    C_NoBegin := C_NoBegin, fi_NoBegin := fi_NoBegin, di_NoBegin := _,
    R_NoBegin := ⟨PySem.W.mg_of X G hC_NoBegin, hC_NoBegin, ⟨_, _, _, _, _, _, _, _, _, _, _, _, _, hL_NoBegin⟩, ha_NoBegin, hb_NoBegin, hc_NoBegin, hd_NoBegin, hi_NoBegin, ht_NoBegin, fun_mk (st := i_NoBegin) hl_NoBegin hq_NoBegin hk_NoBegin, nofun, fun s a ws hl => match ws, hl with | [], _ => .of_eq rfl⟩,
    C_NoRow := C_NoRow, fi_NoRow := fi_NoRow, di_NoRow := _,
    R_NoRow := ⟨PySem.W.mg_of X G hC_NoRow, hC_NoRow, ⟨_, _, _, _, _, _, _, _, _, _, _, _, _, hL_NoRow⟩, ha_NoRow, hb_NoRow, hc_NoRow, hd_NoRow, hi_NoRow, ht_NoRow, fun_mk (st := i_NoRow) hl_NoRow hq_NoRow hk_NoRow, fun f hf => by simp only [List.mem_cons, List.not_mem_nil, or_false] at hf; subst hf; exact hf_NoRow_number, fun s a ws hl => match ws, hl with | [_], _ => .of_eq rfl⟩,
    kb_NoRow_0 := fun s a ws hl => match ws, hl with | [_], _ => .of_eq rfl,
    C_NoHouse := C_NoHouse, fi_NoHouse := fi_NoHouse, di_NoHouse := _,
    R_NoHouse := ⟨PySem.W.mg_of X G hC_NoHouse, hC_NoHouse, ⟨_, _, _, _, _, _, _, _, _, _, _, _, _, hL_NoHouse⟩, ha_NoHouse, hb_NoHouse, hc_NoHouse, hd_NoHouse, hi_NoHouse, ht_NoHouse, fun_mk (st := i_NoHouse) hl_NoHouse hq_NoHouse hk_NoHouse, fun f hf => by simp only [List.mem_cons, List.not_mem_nil, or_false] at hf; subst hf; exact hf_NoHouse_house, fun s a ws hl => match ws, hl with | [_], _ => .of_eq rfl⟩,
    kb_NoHouse_0 := fun s a ws hl => match ws, hl with | [_], _ => .of_eq rfl,
    C_NoHouses := C_NoHouses, fi_NoHouses := fi_NoHouses, di_NoHouses := _,
    R_NoHouses := ⟨PySem.W.mg_of X G hC_NoHouses, hC_NoHouses, ⟨_, _, _, _, _, _, _, _, _, _, _, _, _, hL_NoHouses⟩, ha_NoHouses, hb_NoHouses, hc_NoHouses, hd_NoHouses, hi_NoHouses, ht_NoHouses, fun_mk (st := i_NoHouses) hl_NoHouses hq_NoHouses hk_NoHouses, fun f hf => by simp only [List.mem_cons, List.not_mem_nil, or_false] at hf; subst hf; exact hf_NoHouses_number, fun s a ws hl => match ws, hl with | [_], _ => .of_eq rfl⟩,
    kb_NoHouses_0 := fun s a ws hl => match ws, hl with | [_], _ => .of_eq rfl,
    C_Barred := C_Barred, fi_Barred := fi_Barred, di_Barred := _,
    R_Barred := ⟨PySem.W.mg_of X G hC_Barred, hC_Barred, ⟨_, _, _, _, _, _, _, _, _, _, _, _, _, hL_Barred⟩, ha_Barred, hb_Barred, hc_Barred, hd_Barred, hi_Barred, ht_Barred, fun_mk (st := i_Barred) hl_Barred hq_Barred hk_Barred, fun f hf => by simp only [List.mem_cons, List.not_mem_nil, or_false] at hf; rcases hf with rfl | rfl; exact hf_Barred_where; exact hf_Barred_rule, fun s a ws hl => match ws, hl with | [_, _], _ => .of_eq rfl⟩,
    kb_Barred_0 := fun s a ws hl => match ws, hl with | [_, _], _ => .of_eq rfl,
    C_NoName := C_NoName, fi_NoName := fi_NoName, di_NoName := _,
    R_NoName := ⟨PySem.W.mg_of X G hC_NoName, hC_NoName, ⟨_, _, _, _, _, _, _, _, _, _, _, _, _, hL_NoName⟩, ha_NoName, hb_NoName, hc_NoName, hd_NoName, hi_NoName, ht_NoName, fun_mk (st := i_NoName) hl_NoName hq_NoName hk_NoName, fun f hf => by simp only [List.mem_cons, List.not_mem_nil, or_false] at hf; subst hf; exact hf_NoName_name, fun s a ws hl => match ws, hl with | [_], _ => .of_eq rfl⟩,
    kb_NoName_0 := fun s a ws hl => match ws, hl with | [_], _ => .of_eq rfl,
    C_NoState := C_NoState, fi_NoState := fi_NoState, di_NoState := _,
    R_NoState := ⟨PySem.W.mg_of X G hC_NoState, hC_NoState, ⟨_, _, _, _, _, _, _, _, _, _, _, _, _, hL_NoState⟩, ha_NoState, hb_NoState, hc_NoState, hd_NoState, hi_NoState, ht_NoState, fun_mk (st := i_NoState) hl_NoState hq_NoState hk_NoState, fun f hf => by simp only [List.mem_cons, List.not_mem_nil, or_false] at hf; subst hf; exact hf_NoState_name, fun s a ws hl => match ws, hl with | [_], _ => .of_eq rfl⟩,
    kb_NoState_0 := fun s a ws hl => match ws, hl with | [_], _ => .of_eq rfl,
    C_NoGoing := C_NoGoing, fi_NoGoing := fi_NoGoing, di_NoGoing := _,
    R_NoGoing := ⟨PySem.W.mg_of X G hC_NoGoing, hC_NoGoing, ⟨_, _, _, _, _, _, _, _, _, _, _, _, _, hL_NoGoing⟩, ha_NoGoing, hb_NoGoing, hc_NoGoing, hd_NoGoing, hi_NoGoing, ht_NoGoing, fun_mk (st := i_NoGoing) hl_NoGoing hq_NoGoing hk_NoGoing, fun f hf => by simp only [List.mem_cons, List.not_mem_nil, or_false] at hf; subst hf; exact hf_NoGoing_name, fun s a ws hl => match ws, hl with | [_], _ => .of_eq rfl⟩,
    kb_NoGoing_0 := fun s a ws hl => match ws, hl with | [_], _ => .of_eq rfl,
    C_NoHall := C_NoHall, fi_NoHall := fi_NoHall, di_NoHall := _,
    R_NoHall := ⟨PySem.W.mg_of X G hC_NoHall, hC_NoHall, ⟨_, _, _, _, _, _, _, _, _, _, _, _, _, hL_NoHall⟩, ha_NoHall, hb_NoHall, hc_NoHall, hd_NoHall, hi_NoHall, ht_NoHall, fun_mk (st := i_NoHall) hl_NoHall hq_NoHall hk_NoHall, nofun, fun s a ws hl => match ws, hl with | [], _ => .of_eq rfl⟩,
    C_Full := C_Full, fi_Full := fi_Full, di_Full := _,
    R_Full := ⟨PySem.W.mg_of X G hC_Full, hC_Full, ⟨_, _, _, _, _, _, _, _, _, _, _, _, _, hL_Full⟩, ha_Full, hb_Full, hc_Full, hd_Full, hi_Full, ht_Full, fun_mk (st := i_Full) hl_Full hq_Full hk_Full, nofun, fun s a ws hl => match ws, hl with | [], _ => .of_eq rfl⟩,
    C_TooMany := C_TooMany, fi_TooMany := fi_TooMany, di_TooMany := _,
    R_TooMany := ⟨PySem.W.mg_of X G hC_TooMany, hC_TooMany, ⟨_, _, _, _, _, _, _, _, _, _, _, _, _, hL_TooMany⟩, ha_TooMany, hb_TooMany, hc_TooMany, hd_TooMany, hi_TooMany, ht_TooMany, fun_mk (st := i_TooMany) hl_TooMany hq_TooMany hk_TooMany, fun f hf => by simp only [List.mem_cons, List.not_mem_nil, or_false] at hf; subst hf; exact hf_TooMany_many, fun s a ws hl => match ws, hl with | [_], _ => .of_eq rfl⟩,
    kb_TooMany_0 := fun s a ws hl => match ws, hl with | [_], _ => .of_eq rfl,
    C_Twin := C_Twin, fi_Twin := fi_Twin, di_Twin := _,
    R_Twin := ⟨PySem.W.mg_of X G hC_Twin, hC_Twin, ⟨_, _, _, _, _, _, _, _, _, _, _, _, _, hL_Twin⟩, ha_Twin, hb_Twin, hc_Twin, hd_Twin, hi_Twin, ht_Twin, fun_mk (st := i_Twin) hl_Twin hq_Twin hk_Twin, fun f hf => by simp only [List.mem_cons, List.not_mem_nil, or_false] at hf; subst hf; exact hf_Twin_name, fun s a ws hl => match ws, hl with | [_], _ => .of_eq rfl⟩,
    kb_Twin_0 := fun s a ws hl => match ws, hl with | [_], _ => .of_eq rfl,
    C_Busy := C_Busy, fi_Busy := fi_Busy, di_Busy := _,
    R_Busy := ⟨PySem.W.mg_of X G hC_Busy, hC_Busy, ⟨_, _, _, _, _, _, _, _, _, _, _, _, _, hL_Busy⟩, ha_Busy, hb_Busy, hc_Busy, hd_Busy, hi_Busy, ht_Busy, fun_mk (st := i_Busy) hl_Busy hq_Busy hk_Busy, nofun, fun s a ws hl => match ws, hl with | [], _ => .of_eq rfl⟩
  }⟩
end K04

namespace K04
open PySem PySem.Spec PyProof.Rows L2 Br Dl
theorem in_NoDeed {P : Program} {w : World} {K : PySem.W.Frag} {mg : Str → Option Value} {base : Heap} (T : Txt K mg) (Y : TxtX K mg w T) : FnG P w K mg base CX0 1 Y.fi_NoDeed Y.di_NoDeed (("self" : Str) :: ["part"]) (spE K Y.C_NoDeed ["part"]) := by
  refine okG Y.R_NoDeed.F sci_NoDeed (fun vs H Q E h => by obtain ⟨a, xs, rfl, hl, _⟩ := h; simpa using hl) (fun cdv A outer s H vs Q E hG hr h => ?_)
  refine ⟨_, (pss_cons (ps_expr (pe_biinit (by rfl) T.z_ValueError baseV.hbt baseV.hty baseV.hst baseV.ini (baseV.vV K) (pa_cons (pv 0) (pa_cons (pe_joined (.cons pe_str (.cons (pe_fmtD hr.units hG (pv 1)) .nil))) pa_nil)) baseV.hn baseV.hdb baseV.hh)) (pss_one (ps_os (pv 0) (pv 1)))), ?_⟩
  exact init_f1 (Y.R_NoDeed.ovc baseV) baseV.hB (Y.R_NoDeed.nf "part" (by simp)) (by decide) h
theorem ok_NoDeed {P : Program} {w : World} {K : PySem.W.Frag} {mg : Str → Option Value} {base : Heap} (T : Txt K mg) (Y : TxtX K mg w T) : ClsOk P w K mg base "NoDeed" ["part"] Y.C_NoDeed Y.di_NoDeed := Y.R_NoDeed.clsOk baseV (in_NoDeed T Y)
theorem in_NoText {P : Program} {w : World} {K : PySem.W.Frag} {mg : Str → Option Value} {base : Heap} (T : Txt K mg) (Y : TxtX K mg w T) : FnG P w K mg base CX0 1 Y.fi_NoText Y.di_NoText (("self" : Str) :: ["part"]) (spE K Y.C_NoText ["part"]) := by
  refine okG Y.R_NoText.F sci_NoText (fun vs H Q E h => by obtain ⟨a, xs, rfl, hl, _⟩ := h; simpa using hl) (fun cdv A outer s H vs Q E hG hr h => ?_)
  refine ⟨_, (pss_cons (ps_expr (pe_biinit (by rfl) T.z_ValueError baseV.hbt baseV.hty baseV.hst baseV.ini (baseV.vV K) (pa_cons (pv 0) (pa_cons (pe_joined (.cons pe_str (.cons (pe_fmtD hr.units hG (pv 1)) .nil))) pa_nil)) baseV.hn baseV.hdb baseV.hh)) (pss_one (ps_os (pv 0) (pv 1)))), ?_⟩
  exact init_f1 (Y.R_NoText.ovc baseV) baseV.hB (Y.R_NoText.nf "part" (by simp)) (by decide) h
theorem ok_NoText {P : Program} {w : World} {K : PySem.W.Frag} {mg : Str → Option Value} {base : Heap} (T : Txt K mg) (Y : TxtX K mg w T) : ClsOk P w K mg base "NoText" ["part"] Y.C_NoText Y.di_NoText := Y.R_NoText.clsOk baseV (in_NoText T Y)
theorem in_NoStates {P : Program} {w : World} {K : PySem.W.Frag} {mg : Str → Option Value} {base : Heap} (T : Txt K mg) (Y : TxtX K mg w T) : FnG P w K mg base CX0 1 Y.fi_NoStates Y.di_NoStates (("self" : Str) :: ["number"]) (spE K Y.C_NoStates ["number"]) := by
  refine okG Y.R_NoStates.F sci_NoStates (fun vs H Q E h => by obtain ⟨a, xs, rfl, hl, _⟩ := h; simpa using hl) (fun cdv A outer s H vs Q E hG hr h => ?_)
  refine ⟨_, (pss_cons (ps_expr (pe_biinit (by rfl) T.z_ValueError baseV.hbt baseV.hty baseV.hst baseV.ini (baseV.vV K) (pa_cons (pv 0) (pa_cons (pe_joined (.cons pe_str (.cons (pe_fmtD hr.units hG (pv 1)) .nil))) pa_nil)) baseV.hn baseV.hdb baseV.hh)) (pss_one (ps_os (pv 0) (pv 1)))), ?_⟩
  exact init_f1 (Y.R_NoStates.ovc baseV) baseV.hB (Y.R_NoStates.nf "number" (by simp)) (by decide) h
theorem ok_NoStates {P : Program} {w : World} {K : PySem.W.Frag} {mg : Str → Option Value} {base : Heap} (T : Txt K mg) (Y : TxtX K mg w T) : ClsOk P w K mg base "NoStates" ["number"] Y.C_NoStates Y.di_NoStates := Y.R_NoStates.clsOk baseV (in_NoStates T Y)
theorem in_NoPaper {P : Program} {w : World} {K : PySem.W.Frag} {mg : Str → Option Value} {base : Heap} (T : Txt K mg) (Y : TxtX K mg w T) : FnG P w K mg base CX0 1 Y.fi_NoPaper Y.di_NoPaper (("self" : Str) :: []) (spE K Y.C_NoPaper []) := by
  refine okG Y.R_NoPaper.F sci_NoPaper (fun vs H Q E h => by obtain ⟨a, xs, rfl, hl, _⟩ := h; simpa using hl) (fun cdv A outer s H vs Q E hG hr h => ?_)
  refine ⟨_, (pss_one (ps_expr (pe_biinit (by rfl) T.z_ValueError baseV.hbt baseV.hty baseV.hst baseV.ini (baseV.vV K) (pa_cons (pv 0) (pa_cons pe_str pa_nil)) baseV.hn baseV.hdb baseV.hh))), ?_⟩
  exact init_c0 (Y.R_NoPaper.ovc baseV) baseV.hB h
theorem ok_NoPaper {P : Program} {w : World} {K : PySem.W.Frag} {mg : Str → Option Value} {base : Heap} (T : Txt K mg) (Y : TxtX K mg w T) : ClsOk P w K mg base "NoPaper" [] Y.C_NoPaper Y.di_NoPaper := Y.R_NoPaper.clsOk baseV (in_NoPaper T Y)
theorem in_NoBegin {P : Program} {w : World} {K : PySem.W.Frag} {mg : Str → Option Value} {base : Heap} (T : Txt K mg) (Y : TxtX K mg w T) : FnG P w K mg base CX0 1 Y.fi_NoBegin Y.di_NoBegin (("self" : Str) :: []) (spE K Y.C_NoBegin []) := by
  refine okG Y.R_NoBegin.F sci_NoBegin (fun vs H Q E h => by obtain ⟨a, xs, rfl, hl, _⟩ := h; simpa using hl) (fun cdv A outer s H vs Q E hG hr h => ?_)
  refine ⟨_, (pss_one (ps_expr (pe_biinit (by rfl) T.z_ValueError baseV.hbt baseV.hty baseV.hst baseV.ini (baseV.vV K) (pa_cons (pv 0) (pa_cons pe_str pa_nil)) baseV.hn baseV.hdb baseV.hh))), ?_⟩
  exact init_c0 (Y.R_NoBegin.ovc baseV) baseV.hB h
theorem ok_NoBegin {P : Program} {w : World} {K : PySem.W.Frag} {mg : Str → Option Value} {base : Heap} (T : Txt K mg) (Y : TxtX K mg w T) : ClsOk P w K mg base "NoBegin" [] Y.C_NoBegin Y.di_NoBegin := Y.R_NoBegin.clsOk baseV (in_NoBegin T Y)
theorem in_NoRow {P : Program} {w : World} {K : PySem.W.Frag} {mg : Str → Option Value} {base : Heap} (T : Txt K mg) (Y : TxtX K mg w T) : FnG P w K mg base CX0 1 Y.fi_NoRow Y.di_NoRow (("self" : Str) :: ["number"]) (spE K Y.C_NoRow ["number"]) := by
  refine okG Y.R_NoRow.F sci_NoRow (fun vs H Q E h => by obtain ⟨a, xs, rfl, hl, _⟩ := h; simpa using hl) (fun cdv A outer s H vs Q E hG hr h => ?_)
  refine ⟨_, (pss_cons (ps_expr (pe_biinit (by rfl) T.z_ValueError baseV.hbt baseV.hty baseV.hst baseV.ini (baseV.vV K) (pa_cons (pv 0) (pa_cons (pe_joined (.cons pe_str (.cons (pe_fmtD hr.units hG (pv 1)) .nil))) pa_nil)) baseV.hn baseV.hdb baseV.hh)) (pss_one (ps_os (pv 0) (pv 1)))), ?_⟩
  exact init_f1 (Y.R_NoRow.ovc baseV) baseV.hB (Y.R_NoRow.nf "number" (by simp)) (by decide) h
theorem ok_NoRow {P : Program} {w : World} {K : PySem.W.Frag} {mg : Str → Option Value} {base : Heap} (T : Txt K mg) (Y : TxtX K mg w T) : ClsOk P w K mg base "NoRow" ["number"] Y.C_NoRow Y.di_NoRow := Y.R_NoRow.clsOk baseV (in_NoRow T Y)
theorem in_NoHouse {P : Program} {w : World} {K : PySem.W.Frag} {mg : Str → Option Value} {base : Heap} (T : Txt K mg) (Y : TxtX K mg w T) : FnG P w K mg base CX0 1 Y.fi_NoHouse Y.di_NoHouse (("self" : Str) :: ["house"]) (spE K Y.C_NoHouse ["house"]) := by
  refine okG Y.R_NoHouse.F sci_NoHouse (fun vs H Q E h => by obtain ⟨a, xs, rfl, hl, _⟩ := h; simpa using hl) (fun cdv A outer s H vs Q E hG hr h => ?_)
  refine ⟨_, (pss_cons (ps_expr (pe_biinit (by rfl) T.z_ValueError baseV.hbt baseV.hty baseV.hst baseV.ini (baseV.vV K) (pa_cons (pv 0) (pa_cons pe_str pa_nil)) baseV.hn baseV.hdb baseV.hh)) (pss_one (ps_os (pv 0) (pv 1)))), ?_⟩
  exact init_c1 (Y.R_NoHouse.ovc baseV) baseV.hB (Y.R_NoHouse.nf "house" (by simp)) h
theorem ok_NoHouse {P : Program} {w : World} {K : PySem.W.Frag} {mg : Str → Option Value} {base : Heap} (T : Txt K mg) (Y : TxtX K mg w T) : ClsOk P w K mg base "NoHouse" ["house"] Y.C_NoHouse Y.di_NoHouse := Y.R_NoHouse.clsOk baseV (in_NoHouse T Y)
theorem in_NoHouses {P : Program} {w : World} {K : PySem.W.Frag} {mg : Str → Option Value} {base : Heap} (T : Txt K mg) (Y : TxtX K mg w T) : FnG P w K mg base CX0 1 Y.fi_NoHouses Y.di_NoHouses (("self" : Str) :: ["number"]) (spE K Y.C_NoHouses ["number"]) := by
  refine okG Y.R_NoHouses.F sci_NoHouses (fun vs H Q E h => by obtain ⟨a, xs, rfl, hl, _⟩ := h; simpa using hl) (fun cdv A outer s H vs Q E hG hr h => ?_)
  refine ⟨_, (pss_cons (ps_expr (pe_biinit (by rfl) T.z_ValueError baseV.hbt baseV.hty baseV.hst baseV.ini (baseV.vV K) (pa_cons (pv 0) (pa_cons (pe_joined (.cons pe_str (.cons (pe_fmtD hr.units hG (pv 1)) .nil))) pa_nil)) baseV.hn baseV.hdb baseV.hh)) (pss_one (ps_os (pv 0) (pv 1)))), ?_⟩
  exact init_f1 (Y.R_NoHouses.ovc baseV) baseV.hB (Y.R_NoHouses.nf "number" (by simp)) (by decide) h
theorem ok_NoHouses {P : Program} {w : World} {K : PySem.W.Frag} {mg : Str → Option Value} {base : Heap} (T : Txt K mg) (Y : TxtX K mg w T) : ClsOk P w K mg base "NoHouses" ["number"] Y.C_NoHouses Y.di_NoHouses := Y.R_NoHouses.clsOk baseV (in_NoHouses T Y)
theorem in_Barred {P : Program} {w : World} {K : PySem.W.Frag} {mg : Str → Option Value} {base : Heap} (T : Txt K mg) (Y : TxtX K mg w T) : FnG P w K mg base CX0 1 Y.fi_Barred Y.di_Barred (("self" : Str) :: ["where", "rule"]) (spE K Y.C_Barred ["where", "rule"]) := by
  refine okG Y.R_Barred.F sci_Barred (fun vs H Q E h => by obtain ⟨a, xs, rfl, hl, _⟩ := h; simpa using hl) (fun cdv A outer s H vs Q E hG hr h => ?_)
  refine ⟨_, (pss_cons (ps_expr (pe_biinit (by rfl) T.z_ValueError baseV.hbt baseV.hty baseV.hst baseV.ini (baseV.vV K) (pa_cons (pv 0) (pa_cons (pe_joined (.cons pe_str (.cons (pe_fmtD hr.units hG (pv 1)) (.cons pe_str (.cons (pe_fmtD hr.units hG (pv 2)) .nil))))) pa_nil)) baseV.hn baseV.hdb baseV.hh)) (pss_cons (ps_os (pv 0) (pv 1)) (pss_one (ps_os (pv 0) (pv 2))))), ?_⟩
  exact init_f2 (Y.R_Barred.ovc baseV) baseV.hB (Y.R_Barred.nf "where" (by simp)) (Y.R_Barred.nf "rule" (by simp)) (by decide) (by decide) h
theorem ok_Barred {P : Program} {w : World} {K : PySem.W.Frag} {mg : Str → Option Value} {base : Heap} (T : Txt K mg) (Y : TxtX K mg w T) : ClsOk P w K mg base "Barred" ["where", "rule"] Y.C_Barred Y.di_Barred := Y.R_Barred.clsOk baseV (in_Barred T Y)
theorem in_NoName {P : Program} {w : World} {K : PySem.W.Frag} {mg : Str → Option Value} {base : Heap} (T : Txt K mg) (Y : TxtX K mg w T) : FnG P w K mg base CX0 1 Y.fi_NoName Y.di_NoName (("self" : Str) :: ["name"]) (spE K Y.C_NoName ["name"]) := by
  refine okG Y.R_NoName.F sci_NoName (fun vs H Q E h => by obtain ⟨a, xs, rfl, hl, _⟩ := h; simpa using hl) (fun cdv A outer s H vs Q E hG hr h => ?_)
  refine ⟨_, (pss_cons (ps_expr (pe_biinit (by rfl) T.z_KeyError baseE.hbt baseE.hty baseE.hst baseE.ini (baseE.vV K) (pa_cons (pv 0) (pa_cons pe_str pa_nil)) baseE.hn baseE.hdb baseE.hh)) (pss_one (ps_os (pv 0) (pv 1)))), ?_⟩
  exact init_c1 (Y.R_NoName.ovc baseE) baseE.hB (Y.R_NoName.nf "name" (by simp)) h
theorem ok_NoName {P : Program} {w : World} {K : PySem.W.Frag} {mg : Str → Option Value} {base : Heap} (T : Txt K mg) (Y : TxtX K mg w T) : ClsOk P w K mg base "NoName" ["name"] Y.C_NoName Y.di_NoName := Y.R_NoName.clsOk baseE (in_NoName T Y)
theorem in_NoState {P : Program} {w : World} {K : PySem.W.Frag} {mg : Str → Option Value} {base : Heap} (T : Txt K mg) (Y : TxtX K mg w T) : FnG P w K mg base CX0 1 Y.fi_NoState Y.di_NoState (("self" : Str) :: ["name"]) (spE K Y.C_NoState ["name"]) := by
  refine okG Y.R_NoState.F sci_NoState (fun vs H Q E h => by obtain ⟨a, xs, rfl, hl, _⟩ := h; simpa using hl) (fun cdv A outer s H vs Q E hG hr h => ?_)
  refine ⟨_, (pss_cons (ps_expr (pe_biinit (by rfl) T.z_LookupError baseL.hbt baseL.hty baseL.hst baseL.ini (baseL.vV K) (pa_cons (pv 0) (pa_cons pe_str pa_nil)) baseL.hn baseL.hdb baseL.hh)) (pss_one (ps_os (pv 0) (pv 1)))), ?_⟩
  exact init_c1 (Y.R_NoState.ovc baseL) baseL.hB (Y.R_NoState.nf "name" (by simp)) h
theorem ok_NoState {P : Program} {w : World} {K : PySem.W.Frag} {mg : Str → Option Value} {base : Heap} (T : Txt K mg) (Y : TxtX K mg w T) : ClsOk P w K mg base "NoState" ["name"] Y.C_NoState Y.di_NoState := Y.R_NoState.clsOk baseL (in_NoState T Y)
theorem in_NoGoing {P : Program} {w : World} {K : PySem.W.Frag} {mg : Str → Option Value} {base : Heap} (T : Txt K mg) (Y : TxtX K mg w T) : FnG P w K mg base CX0 1 Y.fi_NoGoing Y.di_NoGoing (("self" : Str) :: ["name"]) (spE K Y.C_NoGoing ["name"]) := by
  refine okG Y.R_NoGoing.F sci_NoGoing (fun vs H Q E h => by obtain ⟨a, xs, rfl, hl, _⟩ := h; simpa using hl) (fun cdv A outer s H vs Q E hG hr h => ?_)
  refine ⟨_, (pss_cons (ps_expr (pe_biinit (by rfl) T.z_LookupError baseL.hbt baseL.hty baseL.hst baseL.ini (baseL.vV K) (pa_cons (pv 0) (pa_cons pe_str pa_nil)) baseL.hn baseL.hdb baseL.hh)) (pss_one (ps_os (pv 0) (pv 1)))), ?_⟩
  exact init_c1 (Y.R_NoGoing.ovc baseL) baseL.hB (Y.R_NoGoing.nf "name" (by simp)) h
theorem ok_NoGoing {P : Program} {w : World} {K : PySem.W.Frag} {mg : Str → Option Value} {base : Heap} (T : Txt K mg) (Y : TxtX K mg w T) : ClsOk P w K mg base "NoGoing" ["name"] Y.C_NoGoing Y.di_NoGoing := Y.R_NoGoing.clsOk baseL (in_NoGoing T Y)
theorem in_NoHall {P : Program} {w : World} {K : PySem.W.Frag} {mg : Str → Option Value} {base : Heap} (T : Txt K mg) (Y : TxtX K mg w T) : FnG P w K mg base CX0 1 Y.fi_NoHall Y.di_NoHall (("self" : Str) :: []) (spE K Y.C_NoHall []) := by
  refine okG Y.R_NoHall.F sci_NoHall (fun vs H Q E h => by obtain ⟨a, xs, rfl, hl, _⟩ := h; simpa using hl) (fun cdv A outer s H vs Q E hG hr h => ?_)
  refine ⟨_, (pss_one (ps_expr (pe_biinit (by rfl) T.z_LookupError baseL.hbt baseL.hty baseL.hst baseL.ini (baseL.vV K) (pa_cons (pv 0) (pa_cons pe_str pa_nil)) baseL.hn baseL.hdb baseL.hh))), ?_⟩
  exact init_c0 (Y.R_NoHall.ovc baseL) baseL.hB h
theorem ok_NoHall {P : Program} {w : World} {K : PySem.W.Frag} {mg : Str → Option Value} {base : Heap} (T : Txt K mg) (Y : TxtX K mg w T) : ClsOk P w K mg base "NoHall" [] Y.C_NoHall Y.di_NoHall := Y.R_NoHall.clsOk baseL (in_NoHall T Y)
theorem in_Full {P : Program} {w : World} {K : PySem.W.Frag} {mg : Str → Option Value} {base : Heap} (T : Txt K mg) (Y : TxtX K mg w T) : FnG P w K mg base CX0 1 Y.fi_Full Y.di_Full (("self" : Str) :: []) (spE K Y.C_Full []) := by
  refine okG Y.R_Full.F sci_Full (fun vs H Q E h => by obtain ⟨a, xs, rfl, hl, _⟩ := h; simpa using hl) (fun cdv A outer s H vs Q E hG hr h => ?_)
  refine ⟨_, (pss_one (ps_expr (pe_biinit (by rfl) T.z_OverflowError baseO.hbt baseO.hty baseO.hst baseO.ini (baseO.vV K) (pa_cons (pv 0) (pa_cons pe_str pa_nil)) baseO.hn baseO.hdb baseO.hh))), ?_⟩
  exact init_c0 (Y.R_Full.ovc baseO) baseO.hB h
theorem ok_Full {P : Program} {w : World} {K : PySem.W.Frag} {mg : Str → Option Value} {base : Heap} (T : Txt K mg) (Y : TxtX K mg w T) : ClsOk P w K mg base "Full" [] Y.C_Full Y.di_Full := Y.R_Full.clsOk baseO (in_Full T Y)
theorem in_TooMany {P : Program} {w : World} {K : PySem.W.Frag} {mg : Str → Option Value} {base : Heap} (T : Txt K mg) (Y : TxtX K mg w T) : FnG P w K mg base CX0 1 Y.fi_TooMany Y.di_TooMany (("self" : Str) :: ["many"]) (spE K Y.C_TooMany ["many"]) := by
  refine okG Y.R_TooMany.F sci_TooMany (fun vs H Q E h => by obtain ⟨a, xs, rfl, hl, _⟩ := h; simpa using hl) (fun cdv A outer s H vs Q E hG hr h => ?_)
  refine ⟨_, (pss_cons (ps_expr (pe_biinit (by rfl) T.z_OverflowError baseO.hbt baseO.hty baseO.hst baseO.ini (baseO.vV K) (pa_cons (pv 0) (pa_cons (pe_joined (.cons pe_str (.cons (pe_fmtD hr.units hG (pv 1)) .nil))) pa_nil)) baseO.hn baseO.hdb baseO.hh)) (pss_one (ps_os (pv 0) (pv 1)))), ?_⟩
  exact init_f1 (Y.R_TooMany.ovc baseO) baseO.hB (Y.R_TooMany.nf "many" (by simp)) (by decide) h
theorem ok_TooMany {P : Program} {w : World} {K : PySem.W.Frag} {mg : Str → Option Value} {base : Heap} (T : Txt K mg) (Y : TxtX K mg w T) : ClsOk P w K mg base "TooMany" ["many"] Y.C_TooMany Y.di_TooMany := Y.R_TooMany.clsOk baseO (in_TooMany T Y)
theorem in_Twin {P : Program} {w : World} {K : PySem.W.Frag} {mg : Str → Option Value} {base : Heap} (T : Txt K mg) (Y : TxtX K mg w T) : FnG P w K mg base CX0 1 Y.fi_Twin Y.di_Twin (("self" : Str) :: ["name"]) (spE K Y.C_Twin ["name"]) := by
  refine okG Y.R_Twin.F sci_Twin (fun vs H Q E h => by obtain ⟨a, xs, rfl, hl, _⟩ := h; simpa using hl) (fun cdv A outer s H vs Q E hG hr h => ?_)
  refine ⟨_, (pss_cons (ps_expr (pe_biinit (by rfl) T.z_RuntimeError baseR.hbt baseR.hty baseR.hst baseR.ini (baseR.vV K) (pa_cons (pv 0) (pa_cons pe_str pa_nil)) baseR.hn baseR.hdb baseR.hh)) (pss_one (ps_os (pv 0) (pv 1)))), ?_⟩
  exact init_c1 (Y.R_Twin.ovc baseR) baseR.hB (Y.R_Twin.nf "name" (by simp)) h
theorem ok_Twin {P : Program} {w : World} {K : PySem.W.Frag} {mg : Str → Option Value} {base : Heap} (T : Txt K mg) (Y : TxtX K mg w T) : ClsOk P w K mg base "Twin" ["name"] Y.C_Twin Y.di_Twin := Y.R_Twin.clsOk baseR (in_Twin T Y)
theorem in_Busy {P : Program} {w : World} {K : PySem.W.Frag} {mg : Str → Option Value} {base : Heap} (T : Txt K mg) (Y : TxtX K mg w T) : FnG P w K mg base CX0 1 Y.fi_Busy Y.di_Busy (("self" : Str) :: []) (spE K Y.C_Busy []) := by
  refine okG Y.R_Busy.F sci_Busy (fun vs H Q E h => by obtain ⟨a, xs, rfl, hl, _⟩ := h; simpa using hl) (fun cdv A outer s H vs Q E hG hr h => ?_)
  refine ⟨_, (pss_one (ps_expr (pe_biinit (by rfl) T.z_RuntimeError baseR.hbt baseR.hty baseR.hst baseR.ini (baseR.vV K) (pa_cons (pv 0) (pa_cons pe_str pa_nil)) baseR.hn baseR.hdb baseR.hh))), ?_⟩
  exact init_c0 (Y.R_Busy.ovc baseR) baseR.hB h
theorem ok_Busy {P : Program} {w : World} {K : PySem.W.Frag} {mg : Str → Option Value} {base : Heap} (T : Txt K mg) (Y : TxtX K mg w T) : ClsOk P w K mg base "Busy" [] Y.C_Busy Y.di_Busy := Y.R_Busy.clsOk baseR (in_Busy T Y)
/-- the classes: their fields, their kin -/
def clsT : Str → Option (List Str × List Value) := fun x => if x = "NoDeed" then some (["part"], bmV) else if x = "NoText" then some (["part"], bmV) else if x = "NoStates" then some (["number"], bmV) else if x = "NoPaper" then some ([], bmV) else if x = "NoBegin" then some ([], bmV) else if x = "NoRow" then some (["number"], bmV) else if x = "NoHouse" then some (["house"], bmV) else if x = "NoHouses" then some (["number"], bmV) else if x = "Barred" then some (["where", "rule"], bmV) else if x = "NoName" then some (["name"], bmK) else if x = "NoState" then some (["name"], bmL) else if x = "NoGoing" then some (["name"], bmL) else if x = "NoHall" then some ([], bmL) else if x = "Full" then some ([], bmO) else if x = "TooMany" then some (["many"], bmO) else if x = "Twin" then some (["name"], bmR) else if x = "Busy" then some ([], bmR) else none
def clsS : Str → Option (List Str) := fun x => (clsT x).map (·.1)
def isS (y : Str) : Str → Option Bool := fun x => (clsT x).map fun _ => decide (x = y)
def isR (t : String) : Str → Option Bool := fun x => (clsT x).map fun p => p.2.contains (.type t)
theorem cls_all {w : World} {K : PySem.W.Frag} {mg : Str → Option Value} (T : Txt K mg) (Y : TxtX K mg w T) : ∀ x p, clsT x = some p → ∃ (B newId i : String) (qi : Str) (st : Stmt) (C fi : Addr) (fd : FuncData), BaseK B newId i p.2 ∧ CRaw K mg x qi newId p.2 st p.1 C fi fd := by
  intro x p h
  unfold clsT at h
  by_cases e_NoDeed : x = "NoDeed"
  · rw [if_pos e_NoDeed] at h
    cases h
    subst e_NoDeed
    exact ⟨_, _, _, _, _, _, _, _, baseV, Y.R_NoDeed⟩
  rw [if_neg e_NoDeed] at h
  by_cases e_NoText : x = "NoText"
  · rw [if_pos e_NoText] at h
    cases h
    subst e_NoText
    exact ⟨_, _, _, _, _, _, _, _, baseV, Y.R_NoText⟩
  rw [if_neg e_NoText] at h
  by_cases e_NoStates : x = "NoStates"
  · rw [if_pos e_NoStates] at h
    cases h
    subst e_NoStates
    exact ⟨_, _, _, _, _, _, _, _, baseV, Y.R_NoStates⟩
  rw [if_neg e_NoStates] at h
  by_cases e_NoPaper : x = "NoPaper"
  · rw [if_pos e_NoPaper] at h
    cases h
    subst e_NoPaper
    exact ⟨_, _, _, _, _, _, _, _, baseV, Y.R_NoPaper⟩
  rw [if_neg e_NoPaper] at h
  by_cases e_NoBegin : x = "NoBegin"
  · rw [if_pos e_NoBegin] at h
    cases h
    subst e_NoBegin
    exact ⟨_, _, _, _, _, _, _, _, baseV, Y.R_NoBegin⟩
  rw [if_neg e_NoBegin] at h
  by_cases e_NoRow : x = "NoRow"
  · rw [if_pos e_NoRow] at h
    cases h
    subst e_NoRow
    exact ⟨_, _, _, _, _, _, _, _, baseV, Y.R_NoRow⟩
  rw [if_neg e_NoRow] at h
  by_cases e_NoHouse : x = "NoHouse"
  · rw [if_pos e_NoHouse] at h
    cases h
    subst e_NoHouse
    exact ⟨_, _, _, _, _, _, _, _, baseV, Y.R_NoHouse⟩
  rw [if_neg e_NoHouse] at h
  by_cases e_NoHouses : x = "NoHouses"
  · rw [if_pos e_NoHouses] at h
    cases h
    subst e_NoHouses
    exact ⟨_, _, _, _, _, _, _, _, baseV, Y.R_NoHouses⟩
  rw [if_neg e_NoHouses] at h
  by_cases e_Barred : x = "Barred"
  · rw [if_pos e_Barred] at h
    cases h
    subst e_Barred
    exact ⟨_, _, _, _, _, _, _, _, baseV, Y.R_Barred⟩
  rw [if_neg e_Barred] at h
  by_cases e_NoName : x = "NoName"
  · rw [if_pos e_NoName] at h
    cases h
    subst e_NoName
    exact ⟨_, _, _, _, _, _, _, _, baseE, Y.R_NoName⟩
  rw [if_neg e_NoName] at h
  by_cases e_NoState : x = "NoState"
  · rw [if_pos e_NoState] at h
    cases h
    subst e_NoState
    exact ⟨_, _, _, _, _, _, _, _, baseL, Y.R_NoState⟩
  rw [if_neg e_NoState] at h
  by_cases e_NoGoing : x = "NoGoing"
  · rw [if_pos e_NoGoing] at h
    cases h
    subst e_NoGoing
    exact ⟨_, _, _, _, _, _, _, _, baseL, Y.R_NoGoing⟩
  rw [if_neg e_NoGoing] at h
  by_cases e_NoHall : x = "NoHall"
  · rw [if_pos e_NoHall] at h
    cases h
    subst e_NoHall
    exact ⟨_, _, _, _, _, _, _, _, baseL, Y.R_NoHall⟩
  rw [if_neg e_NoHall] at h
  by_cases e_Full : x = "Full"
  · rw [if_pos e_Full] at h
    cases h
    subst e_Full
    exact ⟨_, _, _, _, _, _, _, _, baseO, Y.R_Full⟩
  rw [if_neg e_Full] at h
  by_cases e_TooMany : x = "TooMany"
  · rw [if_pos e_TooMany] at h
    cases h
    subst e_TooMany
    exact ⟨_, _, _, _, _, _, _, _, baseO, Y.R_TooMany⟩
  rw [if_neg e_TooMany] at h
  by_cases e_Twin : x = "Twin"
  · rw [if_pos e_Twin] at h
    cases h
    subst e_Twin
    exact ⟨_, _, _, _, _, _, _, _, baseR, Y.R_Twin⟩
  rw [if_neg e_Twin] at h
  by_cases e_Busy : x = "Busy"
  · rw [if_pos e_Busy] at h
    cases h
    subst e_Busy
    exact ⟨_, _, _, _, _, _, _, _, baseR, Y.R_Busy⟩
  rw [if_neg e_Busy] at h
  cases h
theorem clsS_ok {w : World} {K : PySem.W.Frag} {mg : Str → Option Value} (T : Txt K mg) (Y : TxtX K mg w T) : ∀ x ps, clsS x = some ps → ∃ C, ClsA K x ps C := by
  intro x ps h
  obtain ⟨p, hp, rfl⟩ := Option.map_eq_some_iff.mp h
  obtain ⟨B, newId, i, qi, st, C, fi, fd, b, R⟩ := cls_all T Y x p hp
  exact ⟨C, R.clsA b⟩
theorem isS_ok {w : World} {K : PySem.W.Frag} {mg : Str → Option Value} (T : Txt K mg) (Y : TxtX K mg w T) {y qi' : Str} {newId' : String} {bm' : List Value} {st' : Stmt} {ps' : List Str} {C' fi' : Addr} {fd' : FuncData} (R' : CRaw K mg y qi' newId' bm' st' ps' C' fi' fd') :
    ∀ x b, isS y x = some b → ∃ C ps, ClsA K x ps C ∧ PySem.W.kitOne K (.ref C) (.ref C') = some b := by
  intro x b h
  obtain ⟨p, hp, rfl⟩ := Option.map_eq_some_iff.mp h
  obtain ⟨B, newId, i, qi, st, C, fi, fd, b, R⟩ := cls_all T Y x p hp
  exact ⟨C, p.1, R.clsA b, R.kin b R'⟩
theorem isR_ok {w : World} {K : PySem.W.Frag} {mg : Str → Option Value} (T : Txt K mg) (Y : TxtX K mg w T) {t : String} (m : PySem.W.kitMeta t = true) :
    ∀ x b, isR t x = some b → ∃ C ps, ClsA K x ps C ∧ PySem.W.kitOne K (.ref C) (.type t) = some b := by
  intro x b h
  obtain ⟨p, hp, rfl⟩ := Option.map_eq_some_iff.mp h
  obtain ⟨B, newId, i, qi, st, C, fi, fd, b, R⟩ := cls_all T Y x p hp
  exact ⟨C, p.1, R.clsA b, R.root m⟩
end K04

namespace K04
open PySem PySem.Spec PyProof.Rows L2 Br Dl
def b_law_pool : MS := (sSeqF (sSet 2 (mC (.int 0)))
    (sSeqF (sIf (mTest (mOp oLt (mVar 1) (mUn oLen (mVar 0))))
      (sSet 2 (mOp oIx (mVar 0) (mVar 1)))
      sNext)
    (sSeqF (sSet 3 (mOn oMax (aCons (mVar 2) (aCons (mOp oSub (mUn oNeg (mC (.int 1))) (mVar 2)) aNil))))
    (sSeqF (sSet 4 (mOp oMod (mOp oMul (mOp oAdd (mOp oAdd (mOp oAdd (mOp oMod (mVar 3) (mC (.int 2147483629))) (mOp oMul (mOp oMul (mC (.int 7919)) (mVar 1)) (mVar 1))) (mOp oMul (mC (.int 31)) (mVar 1))) (mC (.int 17))) (mC (.int 48271))) (mC (.int 2147483647))))
    (sRet (mLst (aCons (mOp oMul (mVar 3) (mUn oInt (mOp oGe (mVar 3) (mOp oPow (mC (.int 10)) (mC (.int 18)))))) (aCons (mVar 4) aNil))))))))
def F_law_pool : Ff := FofF 2 3 b_law_pool
theorem d_law_pool {P : Program} {w : World} {K : PySem.W.Frag} {mg : Str → Option Value} {base : Heap} (T : Txt K mg) (Y : TxtX K mg w T) : FnF P w K mg base 1 T.f_law_pool T.d_law_pool ["_law_script", "_law_k"] F_law_pool := by
  refine fn_ofF T.F_law_pool sc_law_pool rfl rfl (fun cdv Ar out s0 H E hG hr => ?_)
  exact (sbf_cons (ss_set (i := 2) (by decide) sc_law_pool.nd rfl (.inl rfl) se_int)
    (sbf_cons (ss_if (st_c (c_lt rfl) (se_var (pv 1)) (SE.V (se_len rfl (by rfl) T.z_len (SE.V (se_var (pv 0))))) (nomark _))
      (sb_one (ss_set (i := 2) (by decide) sc_law_pool.nd rfl (.inl rfl) (se_item rfl (Room.u1 hr) (se_var (pv 0)) (SE.V (se_var (pv 1))) (fun _ _ => rfl)))) sb_nil)
    (sbf_cons (ss_set (i := 3) (by decide) sc_law_pool.nd rfl (.inl rfl) (se_max rfl rfl (by rfl) T.z_max (sa_cons (se_var (pv 2)) (sa_cons (se_sub rfl (se_neg rfl (SE.V se_int)) (SE.V (se_var (pv 2)))) sa_nil))))
    (sbf_cons (ss_set (i := 4) (by decide) sc_law_pool.nd rfl (.inl rfl) (se_mod rfl (se_mul rfl (se_add rfl (se_add rfl (se_add rfl (se_mod rfl (se_var (pv 3)) (SE.V se_int)) (SE.V (se_mul rfl (se_mul rfl se_int (SE.V (se_var (pv 1)))) (SE.V (se_var (pv 1)))))) (SE.V (se_mul rfl se_int (SE.V (se_var (pv 1)))))) (SE.V se_int)) (SE.V se_int)) (SE.V se_int)))
    (sbf_ret (se_lst (sa_cons (se_mul rfl (se_var (pv 3)) (SE.V (se_int_of (by rfl) T.z_int (SE.V (se_c (c_ge rfl) (se_var (pv 3)) (SE.V (se_pow rfl se_int (SE.V se_int))) (nomark _)))))) (sa_cons (se_var (pv 4)) sa_nil))))))))
def b_law_take : MS := (sSeq (sIf (mTest (mOp oGt (mOpO oIx 0 (mC (.int 0))) (mC (.int 0))))
      (sSeq (sSet 2 (mOp oMod (mOpO oIx 0 (mC (.int 0))) (mVar 1)))
    (sSeq (sPut 0 (mOp oFdiv (mOpO oIx 0 (mC (.int 0))) (mVar 1)) (mC (.int 0)))
    (sRet (mVar 2))))
      sNext)
    (sSeq (sPut 0 (mOp oMod (mOp oAdd (mOp oMul (mOpO oIx 0 (mC (.int 1))) (mC (.int 69621))) (mC (.int 7))) (mC (.int 2147483647))) (mC (.int 1)))
    (sRet (mOp oMod (mOp oFdiv (mOp oMod (mOp oMul (mOpO oIx 0 (mC (.int 1))) (mOpO oIx 0 (mC (.int 1)))) (mC (.int 2147483629))) (mC (.int 32))) (mVar 1)))))
def F_law_take : Fs := Fof 2 1 1 b_law_take
theorem d_law_take {P : Program} {w : World} {K : PySem.W.Frag} {mg : Str → Option Value} {base : Heap} (T : Txt K mg) (Y : TxtX K mg w T) : FnD P w K mg base 1 T.f_law_take T.d_law_take ["_law_pool_here", "_law_most"] 1 F_law_take := by
  refine fn_of T.F_law_take sc_law_take (by decide) rfl rfl fun cdv Ar out s0 H E hG hr => ?_
  exact (sb_cons (ss_if (st_c (c_gt rfl) (se_itemO rfl (Room.u1 hr) (pv 0) (SE.V se_int) (fun _ _ => rfl)) (SE.V se_int) (nomark _))
      (sb_cons (ss_set (i := 2) (by decide) sc_law_take.nd rfl (.inl rfl) (se_mod rfl (se_itemO rfl (Room.u1 hr) (pv 0) (SE.V se_int) (fun _ _ => rfl)) (SE.V (se_var (pv 1)))))
    (sb_cons (ss_put (i := 0) rfl hr (pv 0) (se_fdiv rfl (se_itemO rfl (Room.u1 hr) (pv 0) (SE.V se_int) (fun _ _ => rfl)) (SE.V (se_var (pv 1)))) se_int)
    (sb_one (ss_ret (se_var (pv 2)))))) sb_nil)
    (sb_cons (ss_put (i := 0) rfl hr (pv 0) (se_mod rfl (se_add rfl (se_mul rfl (se_itemO rfl (Room.u1 hr) (pv 0) (SE.V se_int) (fun _ _ => rfl)) (SE.V se_int)) (SE.V se_int)) (SE.V se_int)) se_int)
    (sb_one (ss_ret (se_mod rfl (se_fdiv rfl (se_mod rfl (se_mul rfl (se_itemO rfl (Room.u1 hr) (pv 0) (SE.V se_int) (fun _ _ => rfl)) (SE.V (se_itemO rfl (Room.u1 hr) (pv 0) (SE.V se_int) (fun _ _ => rfl)))) (SE.V se_int)) (SE.V se_int)) (SE.V (se_var (pv 1))))))))
def b_law_letters : MS := (sSeq (sSet 2 (mC (.str "abcdefghijklmnopqrstuvwxyz")))
    (sRet (mJoin (mC (.str "")) (mLc (mRng1 (aCons (mVar 1) aNil)) (mgName 3) mYes (mOp oIx (mVar 2) (mCall F_law_take 1 (rOwn 0 (rCons (mC (.int 26)) rNil)))) [3]))))
def F_law_letters : Fs := Fof 2 2 1 b_law_letters
theorem d_law_letters {P : Program} {w : World} {K : PySem.W.Frag} {mg : Str → Option Value} {base : Heap} (T : Txt K mg) (Y : TxtX K mg w T) : FnD P w K mg base 2 T.f_law_letters T.d_law_letters ["_law_pool_here", "_law_most"] 1 F_law_letters := by
  have O_law_take := d_law_take (P := P) (w := w) (base := base) T Y
  refine fn_of T.F_law_letters sc_law_letters (by decide) rfl rfl fun cdv Ar out s0 H E hG hr => ?_
  exact (sb_cons (ss_set (i := 2) (by decide) sc_law_letters.nd rfl (.inr rfl) se_str)
    (sb_one (ss_ret (se_join rfl se_str (SE.FV (se_lc (own := [("_law_turn", 3)]) (g := (gName 3)) (mg := (mgName 3)) (mt := mYes) (me := (mOp oIx (mVar 2) (mCall F_law_take 1 (rOwn 0 (rCons (mC (.int 26)) rNil))))) rfl sc_law_letters.nd (si_range1 (by rfl) T.z_range (sa_cons (se_var (pv 1)) sa_nil)) (blkOk_by (own := [("_law_turn", 3)]) (N := ["_law_pool_here", "_law_most", "_law_letters_here", "_law_turn"]) (sc := defScope s_law_letters) (by decide +kernel)) (fun _ _ _ _ _ => (pg_name (i := 3) sc_law_letters.nd rfl (Or.inl rfl))) (sg_name (by decide)) (by decide) (fun _ _ _ _ _ => sts_nil) (fun _ _ _ _ _ => (se_item rfl (Room.u1 hr) (se_var (pv 2)) (SE.V (se_callD O_law_take rfl hG hr (by decide) (by rfl) T.m_law_take T.F_law_take.kp T.b_law_take (sr_own (pv 0) (sr_cons se_int sr_nil)))) (fun _ _ => rfl)))))))))
end K04

namespace K04
open PySem PySem.Spec PyProof.Rows L2 Br Dl
def b_law_made : MS := (sSeq (sSet 2 (mLst (aCons (mMk "NoDeed" ["part"] (aCons (mVar 0) aNil)) (aCons (mMk "NoText" ["part"] (aCons (mVar 0) aNil)) (aCons (mMk "NoStates" ["number"] (aCons (mVar 0) aNil)) (aCons (mMk "NoPaper" [] aNil) (aCons (mMk "NoBegin" [] aNil) (aCons (mMk "NoRow" ["number"] (aCons (mVar 0) aNil)) (aCons (mMk "NoHouse" ["house"] (aCons (mVar 0) aNil)) (aCons (mMk "NoHouses" ["number"] (aCons (mVar 0) aNil)) aNil))))))))))
    (sSeq (sSet 2 (mOp oAdd (mVar 2) (mLst (aCons (mMk "Barred" ["where", "rule"] (aCons (mVar 0) (aCons (mVar 1) aNil))) (aCons (mMk "NoName" ["name"] (aCons (mVar 0) aNil)) (aCons (mMk "NoState" ["name"] (aCons (mVar 0) aNil)) (aCons (mMk "NoGoing" ["name"] (aCons (mVar 0) aNil)) (aCons (mMk "NoHall" [] aNil) (aCons (mMk "Full" [] aNil) (aCons (mMk "TooMany" ["many"] (aCons (mVar 0) aNil)) aNil))))))))))
    (sRet (mOp oAdd (mVar 2) (mLst (aCons (mMk "Twin" ["name"] (aCons (mVar 0) aNil)) (aCons (mMk "Busy" [] aNil) aNil)))))))
def F_law_made : Fs := Fof 2 1 0 b_law_made
theorem d_law_made {P : Program} {w : World} {K : PySem.W.Frag} {mg : Str → Option Value} {base : Heap} (T : Txt K mg) (Y : TxtX K mg w T) : FnD P w K mg base 3 T.f_law_made T.d_law_made ["_law_one", "_law_other"] 0 F_law_made := by
  refine fn_of T.F_law_made sc_law_made (by decide) rfl rfl fun cdv Ar out s0 H E hG hr => ?_
  exact (sb_cons (ss_set (i := 2) (by decide) sc_law_made.nd rfl (.inl rfl) (SE.F (se_lst (sa_cons (se_mk (ok_NoDeed T Y) rfl hG hr (by decide) (by rfl) (sa_cons (se_var (pv 0)) sa_nil)) (sa_cons (se_mk (ok_NoText T Y) rfl hG hr (by decide) (by rfl) (sa_cons (se_var (pv 0)) sa_nil)) (sa_cons (se_mk (ok_NoStates T Y) rfl hG hr (by decide) (by rfl) (sa_cons (se_var (pv 0)) sa_nil)) (sa_cons (se_mk0 (ok_NoPaper T Y) rfl hG hr (by decide) (by rfl)) (sa_cons (se_mk0 (ok_NoBegin T Y) rfl hG hr (by decide) (by rfl)) (sa_cons (se_mk (ok_NoRow T Y) rfl hG hr (by decide) (by rfl) (sa_cons (se_var (pv 0)) sa_nil)) (sa_cons (se_mk (ok_NoHouse T Y) rfl hG hr (by decide) (by rfl) (sa_cons (se_var (pv 0)) sa_nil)) (sa_cons (se_mk (ok_NoHouses T Y) rfl hG hr (by decide) (by rfl) (sa_cons (se_var (pv 0)) sa_nil)) sa_nil)))))))))))
    (sb_cons (ss_set (i := 2) (by decide) sc_law_made.nd rfl (.inl rfl) (se_add rfl (se_var (pv 2)) (SE.FV (se_lst (sa_cons (se_mk (ok_Barred T Y) rfl hG hr (by decide) (by rfl) (sa_cons (se_var (pv 0)) (sa_cons (se_var (pv 1)) sa_nil))) (sa_cons (se_mk (ok_NoName T Y) rfl hG hr (by decide) (by rfl) (sa_cons (se_var (pv 0)) sa_nil)) (sa_cons (se_mk (ok_NoState T Y) rfl hG hr (by decide) (by rfl) (sa_cons (se_var (pv 0)) sa_nil)) (sa_cons (se_mk (ok_NoGoing T Y) rfl hG hr (by decide) (by rfl) (sa_cons (se_var (pv 0)) sa_nil)) (sa_cons (se_mk0 (ok_NoHall T Y) rfl hG hr (by decide) (by rfl)) (sa_cons (se_mk0 (ok_Full T Y) rfl hG hr (by decide) (by rfl)) (sa_cons (se_mk (ok_TooMany T Y) rfl hG hr (by decide) (by rfl) (sa_cons (se_var (pv 0)) sa_nil)) sa_nil)))))))))))
    (sb_one (ss_ret (se_add rfl (se_var (pv 2)) (SE.FV (se_lst (sa_cons (se_mk (ok_Twin T Y) rfl hG hr (by decide) (by rfl) (sa_cons (se_var (pv 0)) sa_nil)) (sa_cons (se_mk0 (ok_Busy T Y) rfl hG hr (by decide) (by rfl)) sa_nil)))))))))
def b_law_named : MS := (sSeq (sSet 2 (mLst (aCons (mMkK "NoDeed" ["part"] [0] (aCons (mVar 0) aNil)) (aCons (mMkK "NoText" ["part"] [0] (aCons (mVar 0) aNil)) (aCons (mMkK "NoStates" ["number"] [0] (aCons (mVar 0) aNil)) (aCons (mC .none) (aCons (mC .none) (aCons (mMkK "NoRow" ["number"] [0] (aCons (mVar 0) aNil)) aNil))))))))
    (sSeq (sSet 2 (mOp oAdd (mVar 2) (mLst (aCons (mMkK "NoHouse" ["house"] [0] (aCons (mVar 0) aNil)) (aCons (mMkK "NoHouses" ["number"] [0] (aCons (mVar 0) aNil)) (aCons (mMkK "Barred" ["where", "rule"] [1, 0] (aCons (mVar 1) (aCons (mVar 0) aNil))) (aCons (mMkK "NoName" ["name"] [0] (aCons (mVar 0) aNil)) aNil)))))))
    (sSeq (sSet 2 (mOp oAdd (mVar 2) (mLst (aCons (mMkK "NoState" ["name"] [0] (aCons (mVar 0) aNil)) (aCons (mMkK "NoGoing" ["name"] [0] (aCons (mVar 0) aNil)) (aCons (mC .none) (aCons (mC .none) (aCons (mMkK "TooMany" ["many"] [0] (aCons (mVar 0) aNil)) aNil))))))))
    (sRet (mOp oAdd (mVar 2) (mLst (aCons (mMkK "Twin" ["name"] [0] (aCons (mVar 0) aNil)) (aCons (mC .none) aNil))))))))
def F_law_named : Fs := Fof 2 1 0 b_law_named
theorem d_law_named {P : Program} {w : World} {K : PySem.W.Frag} {mg : Str → Option Value} {base : Heap} (T : Txt K mg) (Y : TxtX K mg w T) : FnD P w K mg base 3 T.f_law_named T.d_law_named ["_law_one", "_law_other"] 0 F_law_named := by
  refine fn_of T.F_law_named sc_law_named (by decide) rfl rfl fun cdv Ar out s0 H E hG hr => ?_
  exact (sb_cons (ss_set (i := 2) (by decide) sc_law_named.nd rfl (.inl rfl) (SE.F (se_lst (sa_cons (se_mkK (ks := ["part"]) (is := [0]) (ok_NoDeed T Y) Y.kb_NoDeed_0 rfl hG hr (by decide) (by rfl) rfl (fun ds hl => match ds, hl with | [_], _ => rfl) (sk_cons (se_var (pv 0)) sk_nil)) (sa_cons (se_mkK (ks := ["part"]) (is := [0]) (ok_NoText T Y) Y.kb_NoText_0 rfl hG hr (by decide) (by rfl) rfl (fun ds hl => match ds, hl with | [_], _ => rfl) (sk_cons (se_var (pv 0)) sk_nil)) (sa_cons (se_mkK (ks := ["number"]) (is := [0]) (ok_NoStates T Y) Y.kb_NoStates_0 rfl hG hr (by decide) (by rfl) rfl (fun ds hl => match ds, hl with | [_], _ => rfl) (sk_cons (se_var (pv 0)) sk_nil)) (sa_cons se_non (sa_cons se_non (sa_cons (se_mkK (ks := ["number"]) (is := [0]) (ok_NoRow T Y) Y.kb_NoRow_0 rfl hG hr (by decide) (by rfl) rfl (fun ds hl => match ds, hl with | [_], _ => rfl) (sk_cons (se_var (pv 0)) sk_nil)) sa_nil)))))))))
    (sb_cons (ss_set (i := 2) (by decide) sc_law_named.nd rfl (.inl rfl) (se_add rfl (se_var (pv 2)) (SE.FV (se_lst (sa_cons (se_mkK (ks := ["house"]) (is := [0]) (ok_NoHouse T Y) Y.kb_NoHouse_0 rfl hG hr (by decide) (by rfl) rfl (fun ds hl => match ds, hl with | [_], _ => rfl) (sk_cons (se_var (pv 0)) sk_nil)) (sa_cons (se_mkK (ks := ["number"]) (is := [0]) (ok_NoHouses T Y) Y.kb_NoHouses_0 rfl hG hr (by decide) (by rfl) rfl (fun ds hl => match ds, hl with | [_], _ => rfl) (sk_cons (se_var (pv 0)) sk_nil)) (sa_cons (se_mkK (ks := ["rule", "where"]) (is := [1, 0]) (ok_Barred T Y) Y.kb_Barred_0 rfl hG hr (by decide) (by rfl) rfl (fun ds hl => match ds, hl with | [_, _], _ => rfl) (sk_cons (se_var (pv 1)) (sk_cons (se_var (pv 0)) sk_nil))) (sa_cons (se_mkK (ks := ["name"]) (is := [0]) (ok_NoName T Y) Y.kb_NoName_0 rfl hG hr (by decide) (by rfl) rfl (fun ds hl => match ds, hl with | [_], _ => rfl) (sk_cons (se_var (pv 0)) sk_nil)) sa_nil))))))))
    (sb_cons (ss_set (i := 2) (by decide) sc_law_named.nd rfl (.inl rfl) (se_add rfl (se_var (pv 2)) (SE.FV (se_lst (sa_cons (se_mkK (ks := ["name"]) (is := [0]) (ok_NoState T Y) Y.kb_NoState_0 rfl hG hr (by decide) (by rfl) rfl (fun ds hl => match ds, hl with | [_], _ => rfl) (sk_cons (se_var (pv 0)) sk_nil)) (sa_cons (se_mkK (ks := ["name"]) (is := [0]) (ok_NoGoing T Y) Y.kb_NoGoing_0 rfl hG hr (by decide) (by rfl) rfl (fun ds hl => match ds, hl with | [_], _ => rfl) (sk_cons (se_var (pv 0)) sk_nil)) (sa_cons se_non (sa_cons se_non (sa_cons (se_mkK (ks := ["many"]) (is := [0]) (ok_TooMany T Y) Y.kb_TooMany_0 rfl hG hr (by decide) (by rfl) rfl (fun ds hl => match ds, hl with | [_], _ => rfl) (sk_cons (se_var (pv 0)) sk_nil)) sa_nil)))))))))
    (sb_one (ss_ret (se_add rfl (se_var (pv 2)) (SE.FV (se_lst (sa_cons (se_mkK (ks := ["name"]) (is := [0]) (ok_Twin T Y) Y.kb_Twin_0 rfl hG hr (by decide) (by rfl) rfl (fun ds hl => match ds, hl with | [_], _ => rfl) (sk_cons (se_var (pv 0)) sk_nil)) (sa_cons se_non sa_nil))))))))))
def b_law_own : MS := (sSeq (sSet 1 (mLst (aCons (mIsO (isS "NoDeed") (mVar 0)) (aCons (mIsO (isS "NoText") (mVar 0)) (aCons (mIsO (isS "NoStates") (mVar 0)) aNil)))))
    (sSeq (sSet 1 (mOp oAdd (mVar 1) (mLst (aCons (mIsO (isS "NoPaper") (mVar 0)) (aCons (mIsO (isS "NoBegin") (mVar 0)) (aCons (mIsO (isS "NoRow") (mVar 0)) aNil))))))
    (sSeq (sSet 1 (mOp oAdd (mVar 1) (mLst (aCons (mIsO (isS "NoHouse") (mVar 0)) (aCons (mIsO (isS "NoHouses") (mVar 0)) (aCons (mIsO (isS "Barred") (mVar 0)) aNil))))))
    (sSeq (sSet 1 (mOp oAdd (mVar 1) (mLst (aCons (mIsO (isS "NoName") (mVar 0)) (aCons (mIsO (isS "NoState") (mVar 0)) (aCons (mIsO (isS "NoGoing") (mVar 0)) aNil))))))
    (sSeq (sSet 1 (mOp oAdd (mVar 1) (mLst (aCons (mIsO (isS "NoHall") (mVar 0)) (aCons (mIsO (isS "Full") (mVar 0)) (aCons (mIsO (isS "TooMany") (mVar 0)) aNil))))))
    (sRet (mOp oAdd (mVar 1) (mLst (aCons (mIsO (isS "Twin") (mVar 0)) (aCons (mIsO (isS "Busy") (mVar 0)) aNil))))))))))
def F_law_own : Fs := Fof 1 1 0 b_law_own
theorem d_law_own {P : Program} {w : World} {K : PySem.W.Frag} {mg : Str → Option Value} {base : Heap} (T : Txt K mg) (Y : TxtX K mg w T) : FnD P w K mg base 1 T.f_law_own T.d_law_own ["_law_error"] 0 F_law_own := by
  refine fn_of T.F_law_own sc_law_own (by decide) rfl rfl fun cdv Ar out s0 H E hG hr => ?_
  exact (sb_cons (ss_set (i := 1) (by decide) sc_law_own.nd rfl (.inl rfl) (SE.F (se_lst (sa_cons (se_isO (isS_ok T Y Y.R_NoDeed) rfl (by rfl) T.z_isinstance (se_var (pv 0)) (pe_glob (v := .ref Y.C_NoDeed) (by rfl) Y.R_NoDeed.mC rfl) (.own _)) (sa_cons (se_isO (isS_ok T Y Y.R_NoText) rfl (by rfl) T.z_isinstance (se_var (pv 0)) (pe_glob (v := .ref Y.C_NoText) (by rfl) Y.R_NoText.mC rfl) (.own _)) (sa_cons (se_isO (isS_ok T Y Y.R_NoStates) rfl (by rfl) T.z_isinstance (se_var (pv 0)) (pe_glob (v := .ref Y.C_NoStates) (by rfl) Y.R_NoStates.mC rfl) (.own _)) sa_nil))))))
    (sb_cons (ss_set (i := 1) (by decide) sc_law_own.nd rfl (.inl rfl) (se_add rfl (se_var (pv 1)) (SE.FV (se_lst (sa_cons (se_isO (isS_ok T Y Y.R_NoPaper) rfl (by rfl) T.z_isinstance (se_var (pv 0)) (pe_glob (v := .ref Y.C_NoPaper) (by rfl) Y.R_NoPaper.mC rfl) (.own _)) (sa_cons (se_isO (isS_ok T Y Y.R_NoBegin) rfl (by rfl) T.z_isinstance (se_var (pv 0)) (pe_glob (v := .ref Y.C_NoBegin) (by rfl) Y.R_NoBegin.mC rfl) (.own _)) (sa_cons (se_isO (isS_ok T Y Y.R_NoRow) rfl (by rfl) T.z_isinstance (se_var (pv 0)) (pe_glob (v := .ref Y.C_NoRow) (by rfl) Y.R_NoRow.mC rfl) (.own _)) sa_nil)))))))
    (sb_cons (ss_set (i := 1) (by decide) sc_law_own.nd rfl (.inl rfl) (se_add rfl (se_var (pv 1)) (SE.FV (se_lst (sa_cons (se_isO (isS_ok T Y Y.R_NoHouse) rfl (by rfl) T.z_isinstance (se_var (pv 0)) (pe_glob (v := .ref Y.C_NoHouse) (by rfl) Y.R_NoHouse.mC rfl) (.own _)) (sa_cons (se_isO (isS_ok T Y Y.R_NoHouses) rfl (by rfl) T.z_isinstance (se_var (pv 0)) (pe_glob (v := .ref Y.C_NoHouses) (by rfl) Y.R_NoHouses.mC rfl) (.own _)) (sa_cons (se_isO (isS_ok T Y Y.R_Barred) rfl (by rfl) T.z_isinstance (se_var (pv 0)) (pe_glob (v := .ref Y.C_Barred) (by rfl) Y.R_Barred.mC rfl) (.own _)) sa_nil)))))))
    (sb_cons (ss_set (i := 1) (by decide) sc_law_own.nd rfl (.inl rfl) (se_add rfl (se_var (pv 1)) (SE.FV (se_lst (sa_cons (se_isO (isS_ok T Y Y.R_NoName) rfl (by rfl) T.z_isinstance (se_var (pv 0)) (pe_glob (v := .ref Y.C_NoName) (by rfl) Y.R_NoName.mC rfl) (.own _)) (sa_cons (se_isO (isS_ok T Y Y.R_NoState) rfl (by rfl) T.z_isinstance (se_var (pv 0)) (pe_glob (v := .ref Y.C_NoState) (by rfl) Y.R_NoState.mC rfl) (.own _)) (sa_cons (se_isO (isS_ok T Y Y.R_NoGoing) rfl (by rfl) T.z_isinstance (se_var (pv 0)) (pe_glob (v := .ref Y.C_NoGoing) (by rfl) Y.R_NoGoing.mC rfl) (.own _)) sa_nil)))))))
    (sb_cons (ss_set (i := 1) (by decide) sc_law_own.nd rfl (.inl rfl) (se_add rfl (se_var (pv 1)) (SE.FV (se_lst (sa_cons (se_isO (isS_ok T Y Y.R_NoHall) rfl (by rfl) T.z_isinstance (se_var (pv 0)) (pe_glob (v := .ref Y.C_NoHall) (by rfl) Y.R_NoHall.mC rfl) (.own _)) (sa_cons (se_isO (isS_ok T Y Y.R_Full) rfl (by rfl) T.z_isinstance (se_var (pv 0)) (pe_glob (v := .ref Y.C_Full) (by rfl) Y.R_Full.mC rfl) (.own _)) (sa_cons (se_isO (isS_ok T Y Y.R_TooMany) rfl (by rfl) T.z_isinstance (se_var (pv 0)) (pe_glob (v := .ref Y.C_TooMany) (by rfl) Y.R_TooMany.mC rfl) (.own _)) sa_nil)))))))
    (sb_one (ss_ret (se_add rfl (se_var (pv 1)) (SE.FV (se_lst (sa_cons (se_isO (isS_ok T Y Y.R_Twin) rfl (by rfl) T.z_isinstance (se_var (pv 0)) (pe_glob (v := .ref Y.C_Twin) (by rfl) Y.R_Twin.mC rfl) (.own _)) (sa_cons (se_isO (isS_ok T Y Y.R_Busy) rfl (by rfl) T.z_isinstance (se_var (pv 0)) (pe_glob (v := .ref Y.C_Busy) (by rfl) Y.R_Busy.mC rfl) (.own _)) sa_nil))))))))))))
def b_law_roots : MS := (sSeq (sSet 1 (mLst (aCons (mIsO (isR "ValueError") (mVar 0)) (aCons (mIsO (isR "KeyError") (mVar 0)) (aCons (mIsO (isR "IndexError") (mVar 0)) aNil)))))
    (sSeq (sSet 1 (mOp oAdd (mVar 1) (mLst (aCons (mIsO (isR "LookupError") (mVar 0)) (aCons (mIsO (isR "OverflowError") (mVar 0)) (aCons (mIsO (isR "RuntimeError") (mVar 0)) aNil))))))
    (sRet (mLc (mRng1 (aCons (mC (.int 6)) aNil)) (mgName 2) (mTest (mOp oIx (mVar 1) (mVar 2))) (mVar 2) [2]))))
def F_law_roots : Fs := Fof 1 2 0 b_law_roots
theorem d_law_roots {P : Program} {w : World} {K : PySem.W.Frag} {mg : Str → Option Value} {base : Heap} (T : Txt K mg) (Y : TxtX K mg w T) : FnD P w K mg base 1 T.f_law_roots T.d_law_roots ["_law_error"] 0 F_law_roots := by
  refine fn_of T.F_law_roots sc_law_roots (by decide) rfl rfl fun cdv Ar out s0 H E hG hr => ?_
  exact (sb_cons (ss_set (i := 1) (by decide) sc_law_roots.nd rfl (.inr rfl) (SE.F (se_lst (sa_cons (se_isO (isR_ok T Y (t := "ValueError") (by decide +kernel)) rfl (by rfl) T.z_isinstance (se_var (pv 0)) (pe_bltn (v := .ty "ValueError") (by rfl) T.z_ValueError (by decide +kernel) rfl) (.ty _)) (sa_cons (se_isO (isR_ok T Y (t := "KeyError") (by decide +kernel)) rfl (by rfl) T.z_isinstance (se_var (pv 0)) (pe_bltn (v := .ty "KeyError") (by rfl) T.z_KeyError (by decide +kernel) rfl) (.ty _)) (sa_cons (se_isO (isR_ok T Y (t := "IndexError") (by decide +kernel)) rfl (by rfl) T.z_isinstance (se_var (pv 0)) (pe_bltn (v := .ty "IndexError") (by rfl) T.z_IndexError (by decide +kernel) rfl) (.ty _)) sa_nil))))))
    (sb_cons (ss_set (i := 1) (by decide) sc_law_roots.nd rfl (.inr rfl) (se_add rfl (se_var (pv 1)) (SE.FV (se_lst (sa_cons (se_isO (isR_ok T Y (t := "LookupError") (by decide +kernel)) rfl (by rfl) T.z_isinstance (se_var (pv 0)) (pe_bltn (v := .ty "LookupError") (by rfl) T.z_LookupError (by decide +kernel) rfl) (.ty _)) (sa_cons (se_isO (isR_ok T Y (t := "OverflowError") (by decide +kernel)) rfl (by rfl) T.z_isinstance (se_var (pv 0)) (pe_bltn (v := .ty "OverflowError") (by rfl) T.z_OverflowError (by decide +kernel) rfl) (.ty _)) (sa_cons (se_isO (isR_ok T Y (t := "RuntimeError") (by decide +kernel)) rfl (by rfl) T.z_isinstance (se_var (pv 0)) (pe_bltn (v := .ty "RuntimeError") (by rfl) T.z_RuntimeError (by decide +kernel) rfl) (.ty _)) sa_nil)))))))
    (sb_one (ss_ret (SE.F (se_lc (own := [("_law_k", 2)]) (g := (gName 2)) (mg := (mgName 2)) (mt := (mTest (mOp oIx (mVar 1) (mVar 2)))) (me := (mVar 2)) rfl sc_law_roots.nd (si_range1 (by rfl) T.z_range (sa_cons se_int sa_nil)) (blkOk_by (own := [("_law_k", 2)]) (N := ["_law_error", "_law_found", "_law_k"]) (sc := defScope s_law_roots) (by decide +kernel)) (fun _ _ _ _ _ => (pg_name (i := 2) sc_law_roots.nd rfl (Or.inl rfl))) (sg_name (by decide)) (by decide) (fun _ _ _ _ _ => sts_one (st_val (se_item rfl (Room.u1 hr) (se_var (pv 1)) (SE.V (se_var (pv 2))) (fun _ _ => rfl)))) (fun _ _ _ _ _ => (se_var (pv 2)))))))))
def b_law_fields : MS := (sSeq (sSet 1 (mLst (aCons (mXo clsS "part" (mOp oIx (mVar 0) (mC (.int 0)))) (aCons (mXo clsS "part" (mOp oIx (mVar 0) (mC (.int 1)))) (aCons (mXo clsS "number" (mOp oIx (mVar 0) (mC (.int 2)))) (aCons (mXo clsS "number" (mOp oIx (mVar 0) (mC (.int 5)))) (aCons (mXo clsS "house" (mOp oIx (mVar 0) (mC (.int 6)))) (aCons (mXo clsS "number" (mOp oIx (mVar 0) (mC (.int 7)))) aNil))))))))
    (sSeq (sSet 1 (mOp oAdd (mVar 1) (mLst (aCons (mXo clsS "where" (mOp oIx (mVar 0) (mC (.int 8)))) (aCons (mXo clsS "rule" (mOp oIx (mVar 0) (mC (.int 8)))) (aCons (mXo clsS "name" (mOp oIx (mVar 0) (mC (.int 9)))) (aCons (mXo clsS "name" (mOp oIx (mVar 0) (mC (.int 10)))) (aCons (mXo clsS "name" (mOp oIx (mVar 0) (mC (.int 11)))) (aCons (mXo clsS "many" (mOp oIx (mVar 0) (mC (.int 14)))) aNil)))))))))
    (sRet (mOp oAdd (mVar 1) (mLst (aCons (mXo clsS "name" (mOp oIx (mVar 0) (mC (.int 15)))) aNil))))))
def F_law_fields : Fs := Fof 1 1 0 b_law_fields
theorem d_law_fields {P : Program} {w : World} {K : PySem.W.Frag} {mg : Str → Option Value} {base : Heap} (T : Txt K mg) (Y : TxtX K mg w T) : FnD P w K mg base 1 T.f_law_fields T.d_law_fields ["_law_some"] 0 F_law_fields := by
  refine fn_of T.F_law_fields sc_law_fields (by decide) rfl rfl fun cdv Ar out s0 H E hG hr => ?_
  exact (sb_cons (ss_set (i := 1) (by decide) sc_law_fields.nd rfl (.inl rfl) (SE.F (se_lst (sa_cons (se_xo (f := "part") (clsS_ok T Y) rfl (SE.V (se_item rfl (Room.u1 hr) (se_var (pv 0)) (SE.V se_int) (fun _ _ => rfl)))) (sa_cons (se_xo (f := "part") (clsS_ok T Y) rfl (SE.V (se_item rfl (Room.u1 hr) (se_var (pv 0)) (SE.V se_int) (fun _ _ => rfl)))) (sa_cons (se_xo (f := "number") (clsS_ok T Y) rfl (SE.V (se_item rfl (Room.u1 hr) (se_var (pv 0)) (SE.V se_int) (fun _ _ => rfl)))) (sa_cons (se_xo (f := "number") (clsS_ok T Y) rfl (SE.V (se_item rfl (Room.u1 hr) (se_var (pv 0)) (SE.V se_int) (fun _ _ => rfl)))) (sa_cons (se_xo (f := "house") (clsS_ok T Y) rfl (SE.V (se_item rfl (Room.u1 hr) (se_var (pv 0)) (SE.V se_int) (fun _ _ => rfl)))) (sa_cons (se_xo (f := "number") (clsS_ok T Y) rfl (SE.V (se_item rfl (Room.u1 hr) (se_var (pv 0)) (SE.V se_int) (fun _ _ => rfl)))) sa_nil)))))))))
    (sb_cons (ss_set (i := 1) (by decide) sc_law_fields.nd rfl (.inl rfl) (se_add rfl (se_var (pv 1)) (SE.FV (se_lst (sa_cons (se_xo (f := "where") (clsS_ok T Y) rfl (SE.V (se_item rfl (Room.u1 hr) (se_var (pv 0)) (SE.V se_int) (fun _ _ => rfl)))) (sa_cons (se_xo (f := "rule") (clsS_ok T Y) rfl (SE.V (se_item rfl (Room.u1 hr) (se_var (pv 0)) (SE.V se_int) (fun _ _ => rfl)))) (sa_cons (se_xo (f := "name") (clsS_ok T Y) rfl (SE.V (se_item rfl (Room.u1 hr) (se_var (pv 0)) (SE.V se_int) (fun _ _ => rfl)))) (sa_cons (se_xo (f := "name") (clsS_ok T Y) rfl (SE.V (se_item rfl (Room.u1 hr) (se_var (pv 0)) (SE.V se_int) (fun _ _ => rfl)))) (sa_cons (se_xo (f := "name") (clsS_ok T Y) rfl (SE.V (se_item rfl (Room.u1 hr) (se_var (pv 0)) (SE.V se_int) (fun _ _ => rfl)))) (sa_cons (se_xo (f := "many") (clsS_ok T Y) rfl (SE.V (se_item rfl (Room.u1 hr) (se_var (pv 0)) (SE.V se_int) (fun _ _ => rfl)))) sa_nil))))))))))
    (sb_one (ss_ret (se_add rfl (se_var (pv 1)) (SE.FV (se_lst (sa_cons (se_xo (f := "name") (clsS_ok T Y) rfl (SE.V (se_item rfl (Room.u1 hr) (se_var (pv 0)) (SE.V se_int) (fun _ _ => rfl)))) sa_nil))))))))
end K04

namespace K04
open PySem PySem.Spec PyProof.Rows L2 Br Dl
def b_law : MS := (sSeq (sSet 1 (mOp oAdd (mOp oAdd (mOp oAdd (mOp oAdd (mMulL (mLst (aCons (mLst (aCons (mC (.int 0)) aNil)) aNil)) (mC (.int 9))) (mLst (aCons (mLst (aCons (mC (.int 1)) (aCons (mC (.int 3)) aNil))) aNil))) (mMulL (mLst (aCons (mLst (aCons (mC (.int 3)) aNil)) aNil)) (mC (.int 3)))) (mMulL (mLst (aCons (mLst (aCons (mC (.int 4)) aNil)) aNil)) (mC (.int 2)))) (mMulL (mLst (aCons (mLst (aCons (mC (.int 5)) aNil)) aNil)) (mC (.int 2)))))
    (sSeq (sFor (mRng1 (aCons (mOn oMax (aCons (mC (.int 1)) (aCons (mOn oMin (aCons (mUn oLen (mVar 0)) (aCons (mC (.int 10)) aNil))) aNil))) aNil)) (mgName 2)
      (sSeq (sSetO 3 (mCallF F_law_pool (aCons (mVar 0) (aCons (mVar 2) aNil))))
    (sSeq (sSet 4 (mLst (aCons (mCall F_law_take 1 (rOwn 3 (rCons (mOp oPow (mC (.int 10)) (mC (.int 9))) rNil))) (aCons (mC .none) (aCons (mCall F_law_letters 1 (rOwn 3 (rCons (mC (.int 4)) rNil))) (aCons (mTup (aCons (mC (.str "a")) (aCons (mC (.int 3)) aNil))) (aCons (mLst (aCons (mC (.int 1)) aNil)) (aCons (mC (.bool true)) (aCons (mUn oNeg (mC (.int 1))) aNil)))))))))
    (sSeq (sSet 5 (mOp oIx (mVar 4) (mCall F_law_take 1 (rOwn 3 (rCons (mC (.int 7)) rNil)))))
    (sSeq (sSet 6 (mOp oIx (mVar 4) (mCall F_law_take 1 (rOwn 3 (rCons (mC (.int 7)) rNil)))))
    (sSeq (sSet 7 (mCall F_law_made 0 (rCons (mVar 5) (rCons (mVar 6) rNil))))
    (sSeq (sFor (mEnum (aCons (mVar 7) aNil)) (mgTup 2 (mgCons (mgName 8) (mgCons (mgName 9) mgNil)))
      (sIf (mOr (mTest (mOp oNe (mCall F_law_own 0 (rCons (mVar 9) rNil)) (mLc (mRng1 (aCons (mC (.int 17)) aNil)) (mgName 10) mYes (mOp oEq (mVar 8) (mVar 10)) [10]))) (mTest (mOp oNe (mCall F_law_roots 0 (rCons (mVar 9) rNil)) (mOp oIx (mVar 1) (mVar 8)))))
      (sRet (mC (.bool false)))
      sNext))
    (sSeq (sIf (mTest (mOp oNe (mUn oRepr (mCall F_law_fields 0 (rCons (mVar 7) rNil))) (mUn oRepr (mOp oAdd (mOp oAdd (mMulL (mLst (aCons (mVar 5) aNil)) (mC (.int 7))) (mLst (aCons (mVar 6) aNil))) (mMulL (mLst (aCons (mVar 5) aNil)) (mC (.int 5)))))))
      (sRet (mC (.bool false)))
      sNext)
    (sIf (mTest (mOp oNe (mUn oRepr (mCall F_law_fields 0 (rCons (mCall F_law_named 0 (rCons (mVar 5) (rCons (mVar 6) rNil))) rNil))) (mUn oRepr (mCall F_law_fields 0 (rCons (mVar 7) rNil)))))
      (sRet (mC (.bool false)))
      sNext)))))))))
    (sRet (mC (.bool true)))))
def F_law : Fs := Fof 1 10 0 b_law
theorem d_law {P : Program} {w : World} {K : PySem.W.Frag} {mg : Str → Option Value} {base : Heap} (T : Txt K mg) (Y : TxtX K mg w T) : FnD P w K mg base 4 T.f_law T.d_law ["_law_script"] 0 F_law := by
  have O_law_fields := d_law_fields (P := P) (w := w) (base := base) T Y
  have O_law_letters := d_law_letters (P := P) (w := w) (base := base) T Y
  have O_law_made := d_law_made (P := P) (w := w) (base := base) T Y
  have O_law_named := d_law_named (P := P) (w := w) (base := base) T Y
  have O_law_own := d_law_own (P := P) (w := w) (base := base) T Y
  have O_law_pool := d_law_pool (P := P) (w := w) (base := base) T Y
  have O_law_roots := d_law_roots (P := P) (w := w) (base := base) T Y
  have O_law_take := d_law_take (P := P) (w := w) (base := base) T Y
  refine fn_of T.F_law sc_law (by decide) rfl rfl fun cdv Ar out s0 H E hG hr => ?_
  exact (sb_cons (ss_set (i := 1) (by decide) sc_law.nd rfl (.inl rfl) (se_add rfl (se_add rfl (se_add rfl (se_add rfl (SE.F (se_mulL (se_lst (sa_cons (SE.F (se_lst (sa_cons se_int sa_nil))) sa_nil)) se_int)) (SE.FV (se_lst (sa_cons (SE.F (se_lst (sa_cons se_int (sa_cons se_int sa_nil)))) sa_nil)))) (SE.FV (se_mulL (se_lst (sa_cons (SE.F (se_lst (sa_cons se_int sa_nil))) sa_nil)) se_int))) (SE.FV (se_mulL (se_lst (sa_cons (SE.F (se_lst (sa_cons se_int sa_nil))) sa_nil)) se_int))) (SE.FV (se_mulL (se_lst (sa_cons (SE.F (se_lst (sa_cons se_int sa_nil))) sa_nil)) se_int))))
    (sb_cons (ss_for (g := (gName 2)) (mg := (mgName 2)) PassesOwn.never rfl (si_range1 (by rfl) T.z_range (sa_cons (se_max rfl rfl (by rfl) T.z_max (sa_cons se_int (sa_cons (se_min rfl rfl (by rfl) T.z_min (sa_cons (se_len rfl (by rfl) T.z_len (SE.V (se_var (pv 0)))) (sa_cons se_int sa_nil))) sa_nil))) sa_nil)) (pg_name (i := 2) sc_law.nd rfl (.inl rfl)) (sg_name (by decide))
      (sb_cons (ss_setO (i := 3) (by decide) sc_law.nd rfl (.inl rfl) (se_callF O_law_pool rfl hG hr (by decide) (by rfl) T.m_law_pool T.F_law_pool.kp T.b_law_pool (sa_cons (se_var (pv 0)) (sa_cons (se_var (pv 2)) sa_nil))))
    (sb_cons (ss_set (i := 4) (by decide) sc_law.nd rfl (.inl rfl) (SE.F (se_lst (sa_cons (se_callD O_law_take rfl hG hr (by decide) (by rfl) T.m_law_take T.F_law_take.kp T.b_law_take (sr_own (pv 3) (sr_cons (se_pow rfl se_int (SE.V se_int)) sr_nil))) (sa_cons se_non (sa_cons (se_callD O_law_letters rfl hG hr (by decide) (by rfl) T.m_law_letters T.F_law_letters.kp T.b_law_letters (sr_own (pv 3) (sr_cons se_int sr_nil))) (sa_cons (se_tup (sa_cons se_str (sa_cons se_int sa_nil))) (sa_cons (SE.F (se_lst (sa_cons se_int sa_nil))) (sa_cons se_bl (sa_cons (se_neg rfl (SE.V se_int)) sa_nil))))))))))
    (sb_cons (ss_set (i := 5) (by decide) sc_law.nd rfl (.inl rfl) (se_item rfl (Room.u1 hr) (se_var (pv 4)) (SE.V (se_callD O_law_take rfl hG hr (by decide) (by rfl) T.m_law_take T.F_law_take.kp T.b_law_take (sr_own (pv 3) (sr_cons se_int sr_nil)))) (fun _ _ => rfl)))
    (sb_cons (ss_set (i := 6) (by decide) sc_law.nd rfl (.inl rfl) (se_item rfl (Room.u1 hr) (se_var (pv 4)) (SE.V (se_callD O_law_take rfl hG hr (by decide) (by rfl) T.m_law_take T.F_law_take.kp T.b_law_take (sr_own (pv 3) (sr_cons se_int sr_nil)))) (fun _ _ => rfl)))
    (sb_cons (ss_set (i := 7) (by decide) sc_law.nd rfl (.inl rfl) (se_callD O_law_made rfl hG hr (by decide) (by rfl) T.m_law_made T.F_law_made.kp T.b_law_made (sr_cons (se_var (pv 5)) (sr_cons (se_var (pv 6)) sr_nil))))
    (sb_cons (ss_for (g := (gTup K 2 (gCons (gName 8) (gCons (gName 9) gNil)))) (mg := (mgTup 2 (mgCons (mgName 8) (mgCons (mgName 9) mgNil)))) PassesOwn.never rfl (si_enum rfl (by rfl) T.z_enumerate (sa_cons (se_var (pv 7)) sa_nil)) (pg_tup rfl (pgs_cons (pg_name (i := 8) sc_law.nd rfl (.inr rfl)) (pgs_cons (pg_name (i := 9) sc_law.nd rfl (.inl rfl)) pgs_nil))) (sg_tup (sgs_cons (sg_name (by decide)) (sgs_cons (sg_name (by decide)) sgs_nil)))
      (sb_one (ss_if (SW.st (sw_or (st_c (c_ne rfl hr.units) (se_callD O_law_own rfl hG hr (by decide) (by rfl) T.m_law_own T.F_law_own.kp T.b_law_own (sr_cons (se_var (pv 9)) sr_nil)) (SE.FV (se_lc (own := [("_law_own_here", 10)]) (g := (gName 10)) (mg := (mgName 10)) (mt := mYes) (me := (mOp oEq (mVar 8) (mVar 10))) rfl sc_law.nd (si_range1 (by rfl) T.z_range (sa_cons se_int sa_nil)) (blkOk_by (own := [("_law_own_here", 10)]) (N := ["_law_script", "_law_dues", "_law_k", "_law_pool_here", "_law_things", "_law_one", "_law_other", "_law_some", "_law_at", "_law_error", "_law_own_here"]) (sc := defScope s_law) (by decide +kernel)) (fun _ _ _ _ _ => (pg_name (i := 10) sc_law.nd rfl (Or.inl rfl))) (sg_name (by decide)) (by decide) (fun _ _ _ _ _ => sts_nil) (fun _ _ _ _ _ => (se_c (c_eq rfl hr.units) (se_var (pv 8)) (SE.V (se_var (pv 10))) (nomark _))))) (nomark _)) (sw_or1 (st_c (c_ne rfl hr.units) (se_callD O_law_roots rfl hG hr (by decide) (by rfl) T.m_law_roots T.F_law_roots.kp T.b_law_roots (sr_cons (se_var (pv 9)) sr_nil)) (SE.V (se_item rfl (Room.u1 hr) (se_var (pv 1)) (SE.V (se_var (pv 8))) (fun _ _ => rfl))) (nomark _)))))
      (sb_one (ss_ret se_bl)) sb_nil)))
    (sb_cons (ss_if (st_c (c_ne rfl hr.units) (se_repr rfl hG hr (by rfl) T.z_repr (SE.V (se_callD O_law_fields rfl hG hr (by decide) (by rfl) T.m_law_fields T.F_law_fields.kp T.b_law_fields (sr_cons (se_var (pv 7)) sr_nil)))) (SE.V (se_repr rfl hG hr (by rfl) T.z_repr (SE.V (se_add rfl (se_add rfl (SE.F (se_mulL (se_lst (sa_cons (se_var (pv 5)) sa_nil)) se_int)) (SE.FV (se_lst (sa_cons (se_var (pv 6)) sa_nil)))) (SE.FV (se_mulL (se_lst (sa_cons (se_var (pv 5)) sa_nil)) se_int)))))) (nomark _))
      (sb_one (ss_ret se_bl)) sb_nil)
    (sb_one (ss_if (st_c (c_ne rfl hr.units) (se_repr rfl hG hr (by rfl) T.z_repr (SE.V (se_callD O_law_fields rfl hG hr (by decide) (by rfl) T.m_law_fields T.F_law_fields.kp T.b_law_fields (sr_cons (se_callD O_law_named rfl hG hr (by decide) (by rfl) T.m_law_named T.F_law_named.kp T.b_law_named (sr_cons (se_var (pv 5)) (sr_cons (se_var (pv 6)) sr_nil))) sr_nil)))) (SE.V (se_repr rfl hG hr (by rfl) T.z_repr (SE.V (se_callD O_law_fields rfl hG hr (by decide) (by rfl) T.m_law_fields T.F_law_fields.kp T.b_law_fields (sr_cons (se_var (pv 7)) sr_nil))))) (nomark _))
      (sb_one (ss_ret se_bl)) sb_nil))))))))))
    (sb_one (ss_ret se_bl))))
end K04

namespace K04
open PySem PySem.Spec PyProof.Rows L2 Br Dl
/-- a pool -/
def PL (c : Cell) : Prop := ∃ a b : Int, c = .own (.list [.int a, .int b]) ∧ 0 ≤ a ∧ 0 ≤ b ∧ b < 2147483647
theorem take_s {c : Cell} {n : Int} {k : D → List Cell → Prop} (hc : PL c) (hn : 0 < n) (hn2 : n < 1073741824)
    (h : ∀ (t : Int) (c' : Cell), 0 ≤ t → t < n → PL c' → k (.int t) [c']) : F_law_take [c, .fro (.int n)] k := by
  obtain ⟨a, b, rfl, ha, hb, hb2⟩ := hc
  refine Fof.mk rfl ?_
  by_cases h0 : 0 < a
  · simp [b_law_take, sSeq, sIf, mTest, mOp, mOpO, mOwn, mVar, oIx, mC, oCmp, atI, ixN, sSet, sPut, sRet, oMod, oFdiv, oPut, oAdd, oMul, h0, sNext, hn, hn2]
    exact h _ _ (Int.emod_nonneg _ (by omega)) (Int.emod_lt_of_pos _ hn) ⟨_, _, rfl, Int.ediv_nonneg ha (by omega), hb, hb2⟩
  · have n0 : 0 ≤ (b * 69621 + 7) % 2147483647 := Int.emod_nonneg _ (by decide)
    have n1 : (b * 69621 + 7) % 2147483647 < 2147483647 := Int.emod_lt_of_pos _ (by decide)
    have z1 : -18446744073709551616 < b := by omega
    have z2 : b < 18446744073709551616 := by omega
    have z3 : -18446744073709551616 < (b * 69621 + 7) % 2147483647 := by omega
    have z4 : (b * 69621 + 7) % 2147483647 < 18446744073709551616 := by omega
    simp [b_law_take, sSeq, sIf, mTest, mOp, mOpO, mOwn, mVar, oIx, mC, oCmp, atI, ixN, sSet, sPut, sRet, oMod, oFdiv, oPut, oAdd, oMul, h0, sNext, hn, hn2, z1, z2, z3, z4]
    exact h _ _ (Int.emod_nonneg _ (by omega)) (Int.emod_lt_of_pos _ hn) ⟨_, _, rfl, ha, n0, n1⟩
theorem pool_s {ns : List Int} {i : Int} (h0 : 0 ≤ i) (h1 : i < 1000) {k : D → Prop} (h : ∀ a b : Int, 0 ≤ a → 0 ≤ b → b < 2147483647 → k (.list [.int a, .int b])) : F_law_pool [.scr ns, .int i] k := by
  refine ⟨rfl, k, fun _ q => q, ?_⟩
  have rest : ∀ (x : Int), (sSeqF (sSet 3 (mOn oMax (aCons (mVar 2) (aCons (mOp oSub (mUn oNeg (mC (.int 1))) (mVar 2)) aNil))))
    (sSeqF (sSet 4 (mOp oMod (mOp oMul (mOp oAdd (mOp oAdd (mOp oAdd (mOp oMod (mVar 3) (mC (.int 2147483629))) (mOp oMul (mOp oMul (mC (.int 7919)) (mVar 1)) (mVar 1))) (mOp oMul (mC (.int 31)) (mVar 1))) (mC (.int 17))) (mC (.int 48271))) (mC (.int 2147483647))))
    (sRet (mLst (aCons (mOp oMul (mVar 3) (mUn oInt (mOp oGe (mVar 3) (mOp oPow (mC (.int 10)) (mC (.int 18)))))) (aCons (mVar 4) aNil)))))) { nx := fun _ => False, rt := fun d _ => k d } [.fro (.scr ns), .fro (.int i), .fro (.int x), .un, .un] := by
    intro x
    have s2 : 2 ≤ sizeLine := by decide
    have a1 : ∀ y : Int, 0 ≤ y % 2147483629 := fun y => Int.emod_nonneg _ (by decide)
    generalize hs : (if -1 - x > x then -1 - x else x) = sz
    have s0 : 0 ≤ sz := by rw [← hs]; split <;> omega
    have e1 : -18446744073709551616 < i := by omega
    have e2 : i < 18446744073709551616 := by omega
    simp [sSeqF, sSet, mOn, oMax, aCons, aNil, mVar, mOp, mUn, mC, oSub, oNeg, oMod, oMul, oAdd, sRet, mLst, oInt, oCmp, oPow, s2, e1, e2]
    simp [hs]
    refine ⟨.inr (by split <;> omega), h _ _ (Int.mul_nonneg s0 (by split <;> omega)) (Int.emod_nonneg _ (by decide)) (Int.emod_lt_of_pos _ (by decide))⟩
  by_cases c : i < ns.length
  · have hl : i.toNat < ns.length := by omega
    have ha : atI ns i = some (ns[i.toNat]'hl) := by
      have := atI_nat (xs := ns) (j := i.toNat) (List.getElem?_eq_getElem hl)
      rwa [Int.toNat_of_nonneg h0] at this
    show if decide (i < ns.length) = true then (match atI ns i with | some n => _ | none => False) else _
    rw [if_pos (decide_eq_true c), ha]
    exact rest _
  · show if decide (i < ns.length) = true then _ else _
    rw [if_neg (by rw [decide_eq_false c]; decide)]
    exact rest _
end K04

namespace K04
open PySem PySem.Spec PyProof.Rows L2 Br Dl
/-- behind the argument of a call that draws from slot j -/
def Aft (F : Fs) (j : Nat) (k : D → Cs → Prop) (d : D) (ρ : Cs) : Prop := (slotsOf [.inl j, .inr d]).Nodup ∧ slotsOf (([.inl j, .inr d] : List Ar).drop 1) = [] ∧ match cellsOf ρ [.inl j, .inr d] with
  | some cs => F cs fun r cs' => k r (putBack ρ [.inl j, .inr d] cs')
  | none => False
theorem aft {F : Fs} {j : Nat} {k : D → Cs → Prop} {d x : D} {ρ : Cs} (hj : ρ[j]? = some (.own x)) (h : F [.own x, .fro d] fun r cs' => k r (putBack ρ [.inl j, .inr d] cs')) : Aft F j k d ρ := by
  refine ⟨by simp [slotsOf], rfl, ?_⟩
  have e : cellsOf ρ [.inl j, .inr d] = some [.own x, .fro d] := by simp [cellsOf, hj]
  rw [e]
  exact h
theorem call_j {F : Fs} {j : Nat} {m : ME} {k : D → Cs → Prop} {x : D} {ρ : Cs} (hj : ρ[j]? = some (.own x)) (h : m ρ (Aft F j k)) : mCall F 1 (rOwn j (rCons m rNil)) ρ k := by
  show mOwn j ρ fun _ _ => m ρ (Aft F j k)
  unfold mOwn
  rw [hj]
  exact h
theorem call_take {j : Nat} {m : ME} {n : Int} {k : D → Cs → Prop} {c : Cell} {ρ : Cs} (hj : ρ[j]? = some c) (p : PL c) (hm : ∀ k' : D → Cs → Prop, k' (.int n) ρ → m ρ k') (hn : 0 < n) (hn2 : n < 1073741824)
    (h : ∀ (t : Int) (c' : Cell), 0 ≤ t → t < n → PL c' → k (.int t) (ρ.set j c')) : mCall F_law_take 1 (rOwn j (rCons m rNil)) ρ k := by
  obtain ⟨a, b, rfl, p'⟩ := id p
  exact call_j hj (hm _ (aft hj (take_s p hn hn2 fun t c' h0 h1 hc => h t c' h0 h1 hc)))
def low (z : Str) : Prop := ∀ c ∈ z.cps.toList, 97 ≤ c ∧ c ≤ 122
theorem abc_at {r : Int} (h0 : 0 ≤ r) (h1 : r < 26) : ∃ c, atI ("abcdefghijklmnopqrstuvwxyz" : Str).cps.toList r = some c ∧ (97 ≤ c ∧ c ≤ 122) := by
  have hl : ("abcdefghijklmnopqrstuvwxyz" : Str).cps.toList.length = 26 := by decide +kernel
  have e : ((r.toNat : Nat) : Int) = r := Int.toNat_of_nonneg h0
  refine ⟨("abcdefghijklmnopqrstuvwxyz" : Str).cps.toList[r.toNat]'(by omega), ?_⟩
  have q : atI ("abcdefghijklmnopqrstuvwxyz" : Str).cps.toList ((r.toNat : Nat) : Int) = some _ := atI_nat (List.getElem?_eq_getElem (by omega))
  rw [e] at q
  have all : ∀ c ∈ ("abcdefghijklmnopqrstuvwxyz" : Str).cps.toList, 97 ≤ c ∧ c ≤ 122 := by decide +kernel
  exact ⟨q, all _ (List.getElem_mem _)⟩
theorem join_flat : ∀ ys : List Str, (Str.join "" ys).cps.toList = (ys.map fun y => y.cps.toList).flatten
  | [] => rfl
  | [y] => (List.append_nil _).symm
  | x :: y :: r => by
    have e : (Str.join "" (x :: y :: r)).cps.toList = (x.cps.toList ++ []) ++ (Str.join "" (y :: r)).cps.toList := by
      show (x ++ "" ++ Str.join "" (y :: r)).cps.toList = _
      exact (Array.toList_append (xs := (x ++ "").cps)).trans (congrArg (· ++ _) Array.toList_append)
    rw [e, join_flat (y :: r), List.append_nil]
    rfl
theorem low_join {ys : List Str} (h : ∀ y ∈ ys, y.length = 1 ∧ low y) : low (Str.join "" ys) := fun c hc => by
  rw [join_flat] at hc
  obtain ⟨l, hl, hcl⟩ := List.mem_flatten.mp hc
  obtain ⟨y, hy, rfl⟩ := List.mem_map.mp hl
  exact (h y hy).2 c hcl
theorem ones_len : ∀ {ys : List Str}, (∀ y ∈ ys, y.length = 1 ∧ low y) → ((ys.map fun y => y.cps.toList).flatten).length = ys.length ∧ (ys.map (·.length)).sum = ys.length
  | [], _ => ⟨rfl, rfl⟩
  | y :: ys, h => by
    obtain ⟨i1, i2⟩ := ones_len fun z hz => h z (List.mem_cons_of_mem _ hz)
    have := (h y List.mem_cons_self).1
    have e : y.cps.toList.length = y.length := Array.length_toList
    rw [List.map_cons, List.flatten_cons, List.length_append, i1, List.length_cons, List.map_cons, List.sum_cons, i2]
    exact ⟨by omega, by omega⟩
theorem strsOf_map : ∀ ys : List Str, strsOf (ys.map D.str) = some ys
  | [] => rfl
  | y :: ys => by
    show (strsOf (ys.map D.str)).map (y :: ·) = _
    rw [strsOf_map ys]; rfl
theorem lcL_yes {i : Nat} {me : ME} {vs : List Nat} {k : List D → Cs → Prop} {x : D} {r acc : List D} {ρ : Cs} (h : me (ρ.set i (.fro x)) fun d ρ3 => mLcL (mgName i) mYes me vs k r (acc ++ [d]) (wipeC ρ3 vs)) : mLcL (mgName i) mYes me vs k (x :: r) acc ρ := by
  unfold mLcL
  exact Eq.mpr (if_pos (c := true = true) (t := me (ρ.set i (.fro x)) fun d ρ3 => mLcL (mgName i) mYes me vs k r (acc ++ [d]) (wipeC ρ3 vs)) (e := mLcL (mgName i) mYes me vs k r acc (wipeC (ρ.set i (.fro x)) vs)) rfl) h
theorem op_var {o : O2} {i : Nat} {d : D} {m : ME} {k : D → Cs → Prop} {ρ : Cs} (h : ρ[i]? = some (.fro d)) (q : m ρ fun db ρ2 => o d db fun r => k r ρ2) : mOp o (mVar i) m ρ k := by
  unfold mOp mVar
  rw [h]
  exact q
theorem letters_L {n : D} {K : List D → Cs → Prop} : ∀ (xs : List D) (ys : List Str) (c : Cell), PL c → (∀ y ∈ ys, y.length = 1 ∧ low y) →
    (∀ (ys' : List Str) (c' : Cell), PL c' → ys'.length = ys.length + xs.length → (∀ y ∈ ys', y.length = 1 ∧ low y) → K (ys'.map .str) [c', .fro n, .fro (.str "abcdefghijklmnopqrstuvwxyz"), .un]) →
    mLcL (mgName 3) mYes (mOp oIx (mVar 2) (mCall F_law_take 1 (rOwn 0 (rCons (mC (.int 26)) rNil)))) [3] K xs (ys.map .str) [c, .fro n, .fro (.str "abcdefghijklmnopqrstuvwxyz"), .un]
  | [], ys, c, p, hy, h => h ys c p rfl hy
  | x :: xs, ys, c, p, hy, h => by
    refine lcL_yes (op_var rfl ?_)
    refine call_take rfl p (fun _ z => z) (by decide) (by decide) fun t c' t0 t1 pc => ?_
    obtain ⟨s, hs, h8⟩ := abc_at t0 t1
    show _ ∧ _
    refine ⟨by decide, ?_⟩
    show match atI ("abcdefghijklmnopqrstuvwxyz" : Str).cps.toList t with | some c => _ | none => False
    rw [hs]
    show mLcL _ _ _ _ K xs (ys.map D.str ++ [.str ⟨#[s]⟩]) _
    have e : ys.map D.str ++ [.str ⟨#[s]⟩] = (ys ++ [(⟨#[s]⟩ : Str)]).map D.str := by rw [List.map_append]; rfl
    rw [e]
    refine letters_L xs (ys ++ [⟨#[s]⟩]) c' pc (fun y my => ?_) (fun ys' c2 p2 l2 => h ys' c2 p2 (by rw [l2, List.length_append, List.length_cons, List.length_cons, List.length_nil]; omega))
    rcases List.mem_append.mp my with z | z
    · exact hy y z
    · rw [List.mem_singleton.mp z]
      exact ⟨rfl, fun d hd => by rw [List.mem_singleton.mp hd]; exact h8⟩
theorem letters_s {c : Cell} {n : Int} {k : D → List Cell → Prop} (p : PL c) (h0 : 0 ≤ n) (h1 : n < 100) (h : ∀ (z : Str) (c' : Cell), low z → z.length = n.toNat → PL c' → k (.str z) [c']) : F_law_letters [c, .fro (.int n)] k := by
  refine Fof.mk rfl ?_
  show -(2 ^ 62) ≤ n ∧ n < 2 ^ 62 ∧ (intsD 0 n.toNat).length ≤ sizeLine ∧ _
  have ln : (intsD 0 n.toNat).length = n.toNat := by unfold intsD; rw [List.length_map, List.length_range]
  have hs : 100 ≤ sizeLine := by decide
  refine ⟨by omega, by omega, by omega, ?_⟩
  refine letters_L (n := .int n) (intsD 0 n.toNat) [] c p (fun _ z => nomatch z) fun ys c' p' l hy => ?_
  obtain ⟨o1, o2⟩ := ones_len hy
  have ey : (seqOf (.list (ys.map D.str))).bind strsOf = some ys := strsOf_map ys
  show match (seqOf (.list (ys.map D.str))).bind strsOf with | some ys => _ | none => False
  rw [ey]
  rw [ln] at l
  have l' : ys.length = n.toNat := by simpa using l
  have ej : Txt.join "" ys = Str.join "" ys := StrLaws.glued_eq_join ..
  refine ⟨?_, ?_⟩
  · show (ys.map (·.length)).sum + ys.length * 0 ≤ 16777216
    omega
  · refine h _ c' ?_ ?_ p'
    · rw [ej]; exact low_join hy
    · rw [ej, ← l', ← o1, ← join_flat]; exact Array.length_toList.symm
theorem call_letters {j : Nat} {m : ME} {k : D → Cs → Prop} {x : D} {ρ : Cs} (hj : ρ[j]? = some (.own x)) (hm : ∀ k' : D → Cs → Prop, (∀ (n : Int) (c : Cell), PL c → 0 ≤ n → n < 100 → k' (.int n) (ρ.set j c)) → m ρ k')
    (h : ∀ (z : Str) (c' : Cell), low z → z.length < 100 → PL c' → k (.str z) (ρ.set j c')) : mCall F_law_letters 1 (rOwn j (rCons m rNil)) ρ k := by
  refine call_j hj (hm _ fun n c p n0 n1 => ?_)
  have hl : j < ρ.length := by
    have := hj
    exact (List.getElem?_eq_some_iff.mp this).1
  obtain ⟨a, b, rfl, p'⟩ := id p
  refine aft (x := .list [.int a, .int b]) (by rw [List.getElem?_set_self hl]) (letters_s p n0 n1 fun z c' lz ez pc => ?_)
  show k (.str z) ((ρ.set j _).set j c')
  rw [List.set_set]
  exact h z c' lz (by omega) pc
end K04

namespace K04
open PySem PySem.Spec PyProof.Rows L2 Br Dl
/-! what an expression gives, the cells as they were -/
def Ev (m : ME) (ρ : Cs) (d : D) : Prop := ∀ k : D → Cs → Prop, k d ρ → m ρ k
def EvA (m : MA) (ρ : Cs) (ds : List D) : Prop := ∀ k : List D → Cs → Prop, k ds ρ → m ρ k
theorem ev_c {d : D} {ρ : Cs} : Ev (mC d) ρ d := fun k h => h
theorem ev_var {i : Nat} {d : D} {ρ : Cs} (h : ρ[i]? = some (.fro d)) : Ev (mVar i) ρ d := fun k q => by
  unfold mVar
  rw [h]
  exact q
theorem eva_nil {ρ : Cs} : EvA aNil ρ [] := fun k h => h
theorem eva_cons {m : ME} {ma : MA} {ρ : Cs} {d : D} {ds : List D} (h : Ev m ρ d) (g : EvA ma ρ ds) : EvA (aCons m ma) ρ (d :: ds) := fun k q => h _ (g _ q)
theorem ev_tup {ma : MA} {ρ : Cs} {ds : List D} (h : EvA ma ρ ds) (hl : ds.length ≤ 1000) : Ev (mTup ma) ρ (.tuple .mad ds) := fun k q => h _ ⟨Nat.le_trans hl (by decide), q⟩
theorem ev_tupZ {ma : MA} {ρ : Cs} {ds : List D} (h : EvA ma ρ ds) (hl : ds.length ≤ 1000) : Ev (mTupZ ma) ρ (.tuple .frz ds) := fun k q => h _ ⟨Nat.le_trans hl (by decide), q⟩
theorem ev_lst {ma : MA} {ρ : Cs} {ds : List D} (h : EvA ma ρ ds) (hl : ds.length ≤ 1000) : Ev (mLst ma) ρ (.list ds) := fun k q => h _ ⟨Nat.le_trans hl (by decide), q⟩
theorem ev_op {o : O2} {ma mb : ME} {ρ : Cs} {a b d : D} (h : Ev ma ρ a) (g : Ev mb ρ b) (ho : ∀ k : D → Prop, k d → o a b k) : Ev (mOp o ma mb) ρ d := fun k q => h _ (g _ (ho _ q))
theorem ev_un {o : O1} {ma : ME} {ρ : Cs} {a d : D} (h : Ev ma ρ a) (ho : ∀ k : D → Prop, k d → o a k) : Ev (mUn o ma) ρ d := fun k q => h _ (ho _ q)
theorem ev_rev {ma : ME} {ρ : Cs} {c : Tk} {xs : List D} (h : Ev ma ρ (.tuple c xs)) : Ev (mRev ma) ρ (.tuple .mad xs.reverse) := fun k q => h _ q
theorem ev_call1 {F : Fs} {ma : ME} {ρ : Cs} {a d : D} (h : Ev ma ρ a) (hF : ∀ k : D → List Cell → Prop, k d [] → F [.fro a] k) : Ev (mCall F 0 (rCons ma rNil)) ρ d := fun k q => h _ ⟨List.nodup_nil, rfl, hF _ q⟩
theorem ev_call2 {F : Fs} {ma mb : ME} {ρ : Cs} {a b d : D} (h : Ev ma ρ a) (g : Ev mb ρ b) (hF : ∀ k : D → List Cell → Prop, k d [] → F [.fro a, .fro b] k) : Ev (mCall F 0 (rCons ma (rCons mb rNil))) ρ d := fun k q => h _ (g _ ⟨List.nodup_nil, rfl, hF _ q⟩)
theorem ev_call3 {F : Fs} {ma mb mc : ME} {ρ : Cs} {a b c d : D} (h : Ev ma ρ a) (g : Ev mb ρ b) (e : Ev mc ρ c) (hF : ∀ k : D → List Cell → Prop, k d [] → F [.fro a, .fro b, .fro c] k) : Ev (mCall F 0 (rCons ma (rCons mb (rCons mc rNil)))) ρ d := fun k q => h _ (g _ (e _ ⟨List.nodup_nil, rfl, hF _ q⟩))
theorem set_ev {i : Nat} {m : ME} {b : MS} {E : Dn} {ρ : Cs} {d : D} (h : Ev m ρ d) (q : b E (ρ.set i (.fro d))) : sSeq (sSet i m) b E ρ := h _ q
abbrev ret0 (t : MT) : MS := sIf t (sRet (mC (.bool false))) sNext
/-! tests -/
def EvT (t : MT) (ρ : Cs) (b : Bool) : Prop := ∀ k : Bool → Cs → Prop, k b ρ → t ρ k
theorem evt_test {m : ME} {ρ : Cs} {b : Bool} (h : Ev m ρ (.bool b)) : EvT (mTest m) ρ b := fun k q => h _ q
theorem evt_not {t : MT} {ρ : Cs} {b : Bool} (h : EvT t ρ b) : EvT (mNot t) ρ (!b) := fun k q => h _ q
theorem evt_or {t u : MT} {ρ : Cs} (h : EvT t ρ false) (g : EvT u ρ false) : EvT (mOr t u) ρ false := fun k q => h _ (g _ q)
theorem evt_and0 {t u : MT} {ρ : Cs} (h : EvT t ρ false) : EvT (mAnd t u) ρ false := fun k q => h _ q
theorem evt_and1 {t u : MT} {ρ : Cs} {b : Bool} (h : EvT t ρ true) (g : EvT u ρ b) : EvT (mAnd t u) ρ b := fun k q => h _ (g _ q)
theorem ret0_s {t : MT} {E : Dn} {ρ : Cs} (h : EvT t ρ false) (q : E.nx ρ) : ret0 t E ρ := h _ q
theorem seq0_s {t : MT} {b : MS} {E : Dn} {ρ : Cs} (h : EvT t ρ false) (q : b E ρ) : sSeq (ret0 t) b E ρ := h _ q
theorem tup_st {ma : MA} {ρ : Cs} {k : D → Cs → Prop} (q : ma ρ fun ds ρ1 => ds.length ≤ sizeLine ∧ k (.tuple .mad ds) ρ1) : mTup ma ρ k := q
theorem tupZ_st {ma : MA} {ρ : Cs} {k : D → Cs → Prop} (q : ma ρ fun ds ρ1 => ds.length ≤ sizeLine ∧ k (.tuple .frz ds) ρ1) : mTupZ ma ρ k := q
theorem lst_st {ma : MA} {ρ : Cs} {k : D → Cs → Prop} (q : ma ρ fun ds ρ1 => ds.length ≤ sizeLine ∧ k (.list ds) ρ1) : mLst ma ρ k := q
theorem a_st {m : ME} {ma : MA} {ρ : Cs} {k : List D → Cs → Prop} (q : m ρ fun d ρ1 => ma ρ1 fun ds ρ2 => k (d :: ds) ρ2) : aCons m ma ρ k := q
theorem op_st {o : O2} {ma mb : ME} {ρ : Cs} {k : D → Cs → Prop} (q : ma ρ fun da ρ1 => mb ρ1 fun db ρ2 => o da db fun d => k d ρ2) : mOp o ma mb ρ k := q
theorem seq_set' {i : Nat} {m : ME} {b : MS} {E : Dn} {ρ : Cs} (q : m ρ fun d ρ1 => b E (ρ1.set i (.fro d))) : sSeq (sSet i m) b E ρ := q
theorem pick {xs : List D} {u : Int} {K : D → Prop} (u0 : 0 ≤ u) (u1 : u < xs.length) (h : ∀ x ∈ xs, K x) : oIx (.list xs) (.int u) K := by
  have hl : u.toNat < xs.length := by omega
  have e : atI xs u = some (xs[u.toNat]'hl) := by
    have := atI_nat (xs := xs) (j := u.toNat) (List.getElem?_eq_getElem hl)
    rwa [Int.toNat_of_nonneg u0] at this
  show match atI xs u with | some d => K d | none => False
  rw [e]
  exact h _ (List.getElem_mem hl)
theorem ret_st {m : ME} {E : Dn} {ρ : Cs} (q : m ρ fun d ρ1 => E.rt d ρ1) : sRet m E ρ := q
theorem if1_st {t : MT} {a b : MS} {E : Dn} {ρ : Cs} (h : EvT t ρ true) (q : a { E with nx := b E } ρ) : sSeq (sIf t a sNext) b E ρ := h _ q
theorem if0_st {t : MT} {a b : MS} {E : Dn} {ρ : Cs} (h : EvT t ρ false) (q : b E ρ) : sSeq (sIf t a sNext) b E ρ := h _ q
end K04

namespace K04
open PySem PySem.Spec PyProof.Rows L2 Br Dl
def madeV (u v : D) : List D := [.exc "NoDeed" ["part"] [u], .exc "NoText" ["part"] [u], .exc "NoStates" ["number"] [u], .exc "NoPaper" [] [], .exc "NoBegin" [] [], .exc "NoRow" ["number"] [u], .exc "NoHouse" ["house"] [u], .exc "NoHouses" ["number"] [u],
  .exc "Barred" ["rule", "where"] [v, u], .exc "NoName" ["name"] [u], .exc "NoState" ["name"] [u], .exc "NoGoing" ["name"] [u], .exc "NoHall" [] [], .exc "Full" [] [], .exc "TooMany" ["many"] [u], .exc "Twin" ["name"] [u], .exc "Busy" [] []]
def namedV (u v : D) : List D := [.exc "NoDeed" ["part"] [u], .exc "NoText" ["part"] [u], .exc "NoStates" ["number"] [u], .none, .none, .exc "NoRow" ["number"] [u], .exc "NoHouse" ["house"] [u], .exc "NoHouses" ["number"] [u],
  .exc "Barred" ["rule", "where"] [v, u], .exc "NoName" ["name"] [u], .exc "NoState" ["name"] [u], .exc "NoGoing" ["name"] [u], .none, .none, .exc "TooMany" ["many"] [u], .exc "Twin" ["name"] [u], .none]
def fieldsV (u v : D) : List D := [u, u, u, u, u, u, u, v, u, u, u, u, u]
theorem small {n : Nat} (h : n ≤ 1000) : n ≤ sizeLine := Nat.le_trans h (by decide)
section
variable {u v : D} {k : D → List Cell → Prop}
theorem made_s (hu : okF u) (hv : okF v) (h : k (.list (madeV u v)) []) : F_law_made [.fro u, .fro v] k := by
  refine Fof.mk rfl ?_
  have s1 : 8 ≤ sizeLine := small (by decide)
  have s2 : 7 ≤ sizeLine := small (by decide)
  have s3 : 15 ≤ sizeLine := small (by decide)
  have s4 : 2 ≤ sizeLine := small (by decide)
  have s5 : 17 ≤ sizeLine := small (by decide)
  simp [b_law_made, sSeq, sSet, mLst, aCons, aNil, mMk, mVar, mOp, oAdd, sRet, hu, hv, s1, s2, s3, s4, s5]
  exact h
theorem named_s (hu : okF u) (hv : okF v) (h : k (.list (namedV u v)) []) : F_law_named [.fro u, .fro v] k := by
  refine Fof.mk rfl ?_
  have s1 : 6 ≤ sizeLine := small (by decide)
  have s2 : 4 ≤ sizeLine := small (by decide)
  have s3 : 10 ≤ sizeLine := small (by decide)
  have s4 : 5 ≤ sizeLine := small (by decide)
  have s5 : 15 ≤ sizeLine := small (by decide)
  have s6 : 2 ≤ sizeLine := small (by decide)
  have s7 : 17 ≤ sizeLine := small (by decide)
  simp [b_law_named, sSeq, sSet, mLst, aCons, aNil, mMkK, mVar, mOp, oAdd, sRet, mC, perm, hu, hv, s1, s2, s3, s4, s5, s6, s7]
  exact h
end
end K04

namespace K04
open PySem PySem.Spec PyProof.Rows L2 Br Dl
def names : List Str := ["NoDeed", "NoText", "NoStates", "NoPaper", "NoBegin", "NoRow", "NoHouse", "NoHouses", "Barred", "NoName", "NoState", "NoGoing", "NoHall", "Full", "TooMany", "Twin", "Busy"]
theorem isS_of {x y : Str} {p : List Str × List Value} (h : clsT x = some p) : isS y x = some (decide (x = y)) := by
  unfold isS
  rw [h]
  rfl
theorem isR_of {x : Str} {t : String} {p : List Str × List Value} (h : clsT x = some p) : isR t x = some (p.2.contains (.type t)) := by
  unfold isR
  rw [h]
  rfl
section
variable {x : Str} {fs : List Str} {ds : List D} {k : D → List Cell → Prop} {p : List Str × List Value}
theorem own_s (hx : clsT x = some p) (h : k (.list (names.map fun y => .bool (decide (x = y)))) []) : F_law_own [.fro (.exc x fs ds)] k := by
  refine Fof.mk rfl ?_
  have s1 : 3 ≤ sizeLine := small (by decide)
  have s2 : 6 ≤ sizeLine := small (by decide)
  have s3 : 9 ≤ sizeLine := small (by decide)
  have s4 : 12 ≤ sizeLine := small (by decide)
  have s5 : 15 ≤ sizeLine := small (by decide)
  have s6 : 2 ≤ sizeLine := small (by decide)
  have s7 : 17 ≤ sizeLine := small (by decide)
  simp [b_law_own, sSeq, sSet, mLst, aCons, aNil, mIsO, isS_of hx, mVar, mOp, oAdd, sRet, s1, s2, s3, s4, s5, s6, s7]
  exact h
end
end K04

namespace K04
open PySem PySem.Spec PyProof.Rows L2 Br Dl
section
variable {x : Str} {fs : List Str} {ds : List D} {k : D → List Cell → Prop} {ps : List Str} {bm : List Value}
/-- one number of a comprehension over numbers, by a list of truths -/
theorem tr_step {bs : List D} {b : Bool} {i : Int} {e : Cell} {K : List D → Cs → Prop} {r acc : List D} (h : atI bs i = some (.bool b)) (q : mLcL (mgName 2) (mTest (mOp oIx (mVar 1) (mVar 2))) (mVar 2) [2] K r (acc ++ if b = true then [.int i] else []) [e, .fro (.list bs), .un]) :
    mLcL (mgName 2) (mTest (mOp oIx (mVar 1) (mVar 2))) (mVar 2) [2] K (.int i :: r) acc [e, .fro (.list bs), .un] := by
  show match atI bs i with | some d => _ | none => False
  rw [h]
  cases b
  · rw [if_neg Bool.false_ne_true, List.append_nil] at q
    exact q
  · rw [if_pos rfl] at q
    exact q
theorem roots_s {b0 b1 b2 b3 b4 b5 : Bool} {out : List D} (h0 : isR "ValueError" x = some b0) (h1 : isR "KeyError" x = some b1) (h2 : isR "IndexError" x = some b2) (h3 : isR "LookupError" x = some b3) (h4 : isR "OverflowError" x = some b4) (h5 : isR "RuntimeError" x = some b5)
    (ho : out = [] ++ (if b0 = true then [D.int 0] else []) ++ (if b1 = true then [D.int 1] else []) ++ (if b2 = true then [D.int 2] else []) ++ (if b3 = true then [D.int 3] else []) ++ (if b4 = true then [D.int 4] else []) ++ (if b5 = true then [D.int 5] else []))
    (h : k (.list out) []) : F_law_roots [.fro (.exc x fs ds)] k := by
  refine Fof.mk rfl ?_
  have s1 : 3 ≤ sizeLine := small (by decide)
  have s2 : 6 ≤ sizeLine := small (by decide)
  have e6 : intsD 0 6 = [.int 0, .int 1, .int 2, .int 3, .int 4, .int 5] := by rfl
  simp only [b_law_roots, sSeq, sSet, mLst, aCons, aNil, mIsO, mVar, mOp, sRet]
  refine ⟨b0, h0, b1, h1, b2, h2, s1, ?_⟩
  refine ⟨b3, h3, b4, h4, b5, h5, s1, s2, ?_⟩
  show -(2 ^ 62) ≤ (6 : Int) ∧ (6 : Int) < 2 ^ 62 ∧ (intsD 0 6).length ≤ sizeLine ∧ mLcL (mgName 2) (mTest (mOp oIx (mVar 1) (mVar 2))) (mVar 2) [2] _ (intsD 0 6) [] [_, .fro (.list [.bool b0, .bool b1, .bool b2, .bool b3, .bool b4, .bool b5]), .un]
  rw [e6]
  refine ⟨by decide, by decide, s2, ?_⟩
  refine tr_step rfl (tr_step rfl (tr_step rfl (tr_step rfl (tr_step rfl (tr_step rfl ?_)))))
  rw [ho] at h
  exact h
end
theorem clsS_of {x : Str} {p : List Str × List Value} (h : clsT x = some p) : clsS x = some p.1 := by
  unfold clsS
  rw [h]
  rfl
/-- a field that is read -/
theorem ev_xo {f x : Str} {fs ps : List Str} {ds ys : List D} {d : D} {i : Nat} {j : Nat} {ρ : Cs} (hρ : ρ[j]? = some (.fro (.list ys))) (hi : ys[i]? = some (.exc x fs ds)) (hS : clsS x = some ps) (hf : f ∈ ps) (hl : (fs.zip ds).lookup f = some d) :
    Ev (mXo clsS f (mOp oIx (mVar j) (mC (.int (i : Nat))))) ρ d := fun k h => by
  unfold mXo mOp mVar
  rw [hρ]
  show match atI ys ((i : Nat) : Int) with | some d => _ | none => False
  rw [atI_nat hi]
  exact ⟨⟨ps, hS, hf⟩, d, hl, h⟩
end K04

namespace K04
open PySem PySem.Spec PyProof.Rows L2 Br Dl
section
variable {u v : D} {k : D → List Cell → Prop} {ys : List D}
theorem fields_s (h0 : ys[0]? = some (.exc "NoDeed" ["part"] [u])) (h1 : ys[1]? = some (.exc "NoText" ["part"] [u])) (h2 : ys[2]? = some (.exc "NoStates" ["number"] [u])) (h5 : ys[5]? = some (.exc "NoRow" ["number"] [u])) (h6 : ys[6]? = some (.exc "NoHouse" ["house"] [u])) (h7 : ys[7]? = some (.exc "NoHouses" ["number"] [u]))
    (h8 : ys[8]? = some (.exc "Barred" ["rule", "where"] [v, u])) (h9 : ys[9]? = some (.exc "NoName" ["name"] [u])) (h10 : ys[10]? = some (.exc "NoState" ["name"] [u])) (h11 : ys[11]? = some (.exc "NoGoing" ["name"] [u])) (h14 : ys[14]? = some (.exc "TooMany" ["many"] [u])) (h15 : ys[15]? = some (.exc "Twin" ["name"] [u]))
    (h : k (.list (fieldsV u v)) []) : F_law_fields [.fro (.list ys)] k := by
  refine Fof.mk rfl ?_
  have s2 : 12 ≤ sizeLine := small (by decide)
  have s4 : 13 ≤ sizeLine := small (by decide)
  have e1 : ∀ {f : Str} {u : D}, ((([f] : List Str).zip [u]).lookup f) = some u := fun {f u} => by simp [List.lookup]
  have e2 : ((["rule", "where"] : List Str).zip [v, u]).lookup ("where" : Str) = some u := rfl
  have e3 : ((["rule", "where"] : List Str).zip [v, u]).lookup ("rule" : Str) = some v := rfl
  have A : Ev _ [.fro (.list ys), .un] (.list [u, u, u, u, u, u]) := (ev_lst (eva_cons (ev_xo (i := 0) (j := 0) (fs := ["part"]) (ds := [u]) (ps := ["part"]) rfl h0 (by decide +kernel) (by decide +kernel) e1)
      (eva_cons (ev_xo (i := 1) (j := 0) (fs := ["part"]) (ds := [u]) (ps := ["part"]) rfl h1 (by decide +kernel) (by decide +kernel) e1)
      (eva_cons (ev_xo (i := 2) (j := 0) (fs := ["number"]) (ds := [u]) (ps := ["number"]) rfl h2 (by decide +kernel) (by decide +kernel) e1)
      (eva_cons (ev_xo (i := 5) (j := 0) (fs := ["number"]) (ds := [u]) (ps := ["number"]) rfl h5 (by decide +kernel) (by decide +kernel) e1)
      (eva_cons (ev_xo (i := 6) (j := 0) (fs := ["house"]) (ds := [u]) (ps := ["house"]) rfl h6 (by decide +kernel) (by decide +kernel) e1)
      (eva_cons (ev_xo (i := 7) (j := 0) (fs := ["number"]) (ds := [u]) (ps := ["number"]) rfl h7 (by decide +kernel) (by decide +kernel) e1)
      eva_nil)))))) (Nat.le_of_ble_eq_true rfl))
  have B : Ev _ [.fro (.list ys), .fro (.list [u, u, u, u, u, u])] (.list [u, v, u, u, u, u]) := (ev_lst (eva_cons (ev_xo (i := 8) (j := 0) (fs := ["rule", "where"]) (ds := [v, u]) (ps := ["where", "rule"]) rfl h8 (by decide +kernel) (by decide +kernel) e2)
      (eva_cons (ev_xo (i := 8) (j := 0) (fs := ["rule", "where"]) (ds := [v, u]) (ps := ["where", "rule"]) rfl h8 (by decide +kernel) (by decide +kernel) e3)
      (eva_cons (ev_xo (i := 9) (j := 0) (fs := ["name"]) (ds := [u]) (ps := ["name"]) rfl h9 (by decide +kernel) (by decide +kernel) e1)
      (eva_cons (ev_xo (i := 10) (j := 0) (fs := ["name"]) (ds := [u]) (ps := ["name"]) rfl h10 (by decide +kernel) (by decide +kernel) e1)
      (eva_cons (ev_xo (i := 11) (j := 0) (fs := ["name"]) (ds := [u]) (ps := ["name"]) rfl h11 (by decide +kernel) (by decide +kernel) e1)
      (eva_cons (ev_xo (i := 14) (j := 0) (fs := ["many"]) (ds := [u]) (ps := ["many"]) rfl h14 (by decide +kernel) (by decide +kernel) e1)
      eva_nil)))))) (Nat.le_of_ble_eq_true rfl))
  have C : Ev _ [.fro (.list ys), .fro (.list [u, u, u, u, u, u, u, v, u, u, u, u])] (.list [u]) := (ev_lst (eva_cons (ev_xo (i := 15) (j := 0) (fs := ["name"]) (ds := [u]) (ps := ["name"]) rfl h15 (by decide +kernel) (by decide +kernel) e1)
      eva_nil) (Nat.le_of_ble_eq_true rfl))
  refine set_ev A ?_
  refine set_ev (ev_op (o := oAdd) (a := .list [u, u, u, u, u, u]) (b := .list [u, v, u, u, u, u]) (d := .list [u, u, u, u, u, u, u, v, u, u, u, u]) (ev_var rfl) B fun k q => ⟨s2, q⟩) ?_
  exact (ev_op (o := oAdd) (a := .list [u, u, u, u, u, u, u, v, u, u, u, u]) (b := .list [u]) (d := .list (fieldsV u v)) (ev_var rfl) C fun k q => ⟨s4, q⟩ : Ev _ [.fro (.list ys), .fro (.list [u, u, u, u, u, u, u, v, u, u, u, u])] _) _ h
theorem fields_made (h : k (.list (fieldsV u v)) []) : F_law_fields [.fro (.list (madeV u v))] k := fields_s (u := u) (v := v) rfl rfl rfl rfl rfl rfl rfl rfl rfl rfl rfl rfl h
theorem fields_named (h : k (.list (fieldsV u v)) []) : F_law_fields [.fro (.list (namedV u v))] k := fields_s (u := u) (v := v) rfl rfl rfl rfl rfl rfl rfl rfl rfl rfl rfl rfl h
end
/-- a thing of the law's -/
structure Tg (d : D) : Prop where
  sh : (toPy d).showable = true
  nd : (toPy d).hasDict = false
  le : (toPy d).leavesShort 13 = true
  dp : (toPy d).depth ≤ 2
  bk : (toPy d).bulk ≤ 20
  tx : (txtOf (toPy d)).length ≤ 1000
theorem Tg.fits {d : D} (t : Tg d) : (toPy d).shown.length ≤ sizeLine := PyData.shown_fits_bulk (B := 13) (by decide) (by decide) t.le (Nat.le_trans t.bk (by decide))
theorem Tg.ok {d : D} (t : Tg d) : okF d := ⟨t.sh, t.nd, Nat.le_trans t.dp (by decide), t.fits, t.tx⟩
theorem tg_int {i : Int} (h0 : 0 ≤ i) (h1 : i < 1000000000) : Tg (.int i) := by
  have w : Wl 0 0 (.int i) := wl_int (by omega)
  exact ⟨w.sh, rfl, w.le, Nat.le_trans w.dp (by decide), Nat.le_trans w.bk (by decide), Nat.le_trans (of_decide_eq_true w.le : (PyData.shown (.int i)).length ≤ 13) (by decide)⟩
theorem tg_str {z : Str} (lz : low z) (hl : z.length ≤ 20) : Tg (.str z) := by
  have w : Wl 0 20 (.str z) := wl_str (fun c hc => by have := lz c hc; omega) hl
  exact ⟨w.sh, rfl, w.le, Nat.le_trans w.dp (by decide), w.bk, Nat.le_trans hl (by decide)⟩
theorem tg_none : Tg .none := ⟨by decide +kernel, rfl, by decide +kernel, by decide +kernel, by decide +kernel, by decide +kernel⟩
theorem tg_true : Tg (.bool true) := ⟨by decide +kernel, rfl, by decide +kernel, by decide +kernel, by decide +kernel, by decide +kernel⟩
theorem tg_neg : Tg (.int (-1)) := ⟨by decide +kernel, rfl, by decide +kernel, by decide +kernel, by decide +kernel, by decide +kernel⟩
theorem tg_tup : Tg (.tuple .mad [.str "a", .int 3]) := ⟨by decide +kernel, rfl, by decide +kernel, by decide +kernel, by decide +kernel, by decide +kernel⟩
theorem tg_lst : Tg (.list [.int 1]) := ⟨by decide +kernel, rfl, by decide +kernel, by decide +kernel, by decide +kernel, by decide +kernel⟩
/-- repr of the fields -/
theorem repr_fields {u v : D} (hu : Tg u) (hv : Tg v) {k : D → Prop} (q : k (.str (toPy (.list (fieldsV u v))).shown)) : oRepr (.list (fieldsV u v)) k := by
  refine ⟨?_, ?_, ?_, ?_, q⟩
  · show PyData.showableAll (toPys (fieldsV u v)) = true
    simp [fieldsV, toPys, PyData.showableAll, hu.sh, hv.sh]
  · show PyData.hasDictAll (toPys (fieldsV u v)) = false
    simp [fieldsV, toPys, PyData.hasDictAll, hu.nd, hv.nd]
  · have := hu.dp
    have := hv.dp
    show PyData.depth (.list (toPys (fieldsV u v))) ≤ 60
    simp only [fieldsV, toPys, PyData.depth, PyData.depthAll]
    omega
  · refine PyData.shown_fits_bulk (B := 13) (by decide) (by decide) ?_ ?_
    · show PyData.leavesShortAll 13 (toPys (fieldsV u v)) = true
      simp [fieldsV, toPys, PyData.leavesShortAll, hu.le, hv.le]
    · have := hu.bk
      have := hv.bk
      show PyData.bulkAll (toPys (fieldsV u v)) ≤ 2 ^ 20
      simp only [fieldsV, toPys, PyData.bulkAll]
      omega
end K04

namespace K04
open PySem PySem.Spec PyProof.Rows L2 Br Dl
abbrev Wc (ns : List Int) (c1 c2 c3 c4 c5 c6 c7 c8 c9 c10 : Cell) : Cs := [.fro (.scr ns), c1, c2, c3, c4, c5, c6, c7, c8, c9, c10]
def dues_e : ME := mOp oAdd (mOp oAdd (mOp oAdd (mOp oAdd (mMulL (mLst (aCons (mLst (aCons (mC (.int 0)) aNil)) aNil)) (mC (.int 9))) (mLst (aCons (mLst (aCons (mC (.int 1)) (aCons (mC (.int 3)) aNil))) aNil))) (mMulL (mLst (aCons (mLst (aCons (mC (.int 3)) aNil)) aNil)) (mC (.int 3)))) (mMulL (mLst (aCons (mLst (aCons (mC (.int 4)) aNil)) aNil)) (mC (.int 2)))) (mMulL (mLst (aCons (mLst (aCons (mC (.int 5)) aNil)) aNil)) (mC (.int 2)))
def things_e : ME := mLst (aCons (mCall F_law_take 1 (rOwn 3 (rCons (mOp oPow (mC (.int 10)) (mC (.int 9))) rNil))) (aCons (mC .none) (aCons (mCall F_law_letters 1 (rOwn 3 (rCons (mC (.int 4)) rNil))) (aCons (mTup (aCons (mC (.str "a")) (aCons (mC (.int 3)) aNil))) (aCons (mLst (aCons (mC (.int 1)) aNil)) (aCons (mC (.bool true)) (aCons (mUn oNeg (mC (.int 1))) aNil)))))))
def one_e : ME := mOp oIx (mVar 4) (mCall F_law_take 1 (rOwn 3 (rCons (mC (.int 7)) rNil)))
def own_t : MT := mTest (mOp oNe (mCall F_law_own 0 (rCons (mVar 9) rNil)) (mLc (mRng1 (aCons (mC (.int 17)) aNil)) (mgName 10) mYes (mOp oEq (mVar 8) (mVar 10)) [10]))
def roots_t : MT := mTest (mOp oNe (mCall F_law_roots 0 (rCons (mVar 9) rNil)) (mOp oIx (mVar 1) (mVar 8)))
def chk_body : MS := ret0 (mOr own_t roots_t)
def f1_t : MT := mTest (mOp oNe (mUn oRepr (mCall F_law_fields 0 (rCons (mVar 7) rNil))) (mUn oRepr (mOp oAdd (mOp oAdd (mMulL (mLst (aCons (mVar 5) aNil)) (mC (.int 7))) (mLst (aCons (mVar 6) aNil))) (mMulL (mLst (aCons (mVar 5) aNil)) (mC (.int 5))))))
def f2_t : MT := mTest (mOp oNe (mUn oRepr (mCall F_law_fields 0 (rCons (mCall F_law_named 0 (rCons (mVar 5) (rCons (mVar 6) rNil))) rNil))) (mUn oRepr (mCall F_law_fields 0 (rCons (mVar 7) rNil))))
def law_body : MS := sSeq (sSetO 3 (mCallF F_law_pool (aCons (mVar 0) (aCons (mVar 2) aNil)))) (sSeq (sSet 4 things_e) (sSeq (sSet 5 one_e) (sSeq (sSet 6 one_e) (sSeq (sSet 7 (mCall F_law_made 0 (rCons (mVar 5) (rCons (mVar 6) rNil))))
  (sSeq (sFor (mEnum (aCons (mVar 7) aNil)) (mgTup 2 (mgCons (mgName 8) (mgCons (mgName 9) mgNil))) chk_body) (sSeq (ret0 f1_t) (ret0 f2_t)))))))
def rng_i : MI := mRng1 (aCons (mOn oMax (aCons (mC (.int 1)) (aCons (mOn oMin (aCons (mUn oLen (mVar 0)) (aCons (mC (.int 10)) aNil))) aNil))) aNil)
theorem law_eq : b_law = sSeq (sSet 1 dues_e) (sSeq (sFor rng_i (mgName 2) law_body) (sRet (mC (.bool true)))) := rfl
def dueL : List (List Int) := [[0], [0], [0], [0], [0], [0], [0], [0], [0], [1, 3], [3], [3], [3], [4], [4], [5], [5]]
def duesD : List D := dueL.map fun is => .list (is.map .int)
theorem lcM {i : Nat} {S : Cell → Cs} (hs : ∀ a b, (S a).set i b = S b) {me : ME} {f : D → D} {K : List D → Cs → Prop} : ∀ (xs acc : List D), (∀ x ∈ xs, Ev me (S (.fro x)) (f x)) → K (acc ++ xs.map f) (S .un) → mLcL (mgName i) mYes me [i] K xs acc (S .un)
  | [], acc, _, h => by
    rw [List.map_nil, List.append_nil] at h
    exact h
  | x :: xs, acc, he, h => by
    refine lcL_yes ?_
    rw [hs]
    refine he x List.mem_cons_self _ ?_
    show mLcL _ _ _ _ K xs (acc ++ [f x]) ((S (.fro x)).set i .un)
    rw [hs]
    refine lcM hs xs (acc ++ [f x]) (fun y m => he y (List.mem_cons_of_mem _ m)) ?_
    rw [List.append_assoc]
    exact h
theorem ev_lcM {i : Nat} {S : Cell → Cs} {mi : MI} {me : ME} {xs : List D} {f : D → D} (hs : ∀ a b, (S a).set i b = S b) (hi : ∀ k : List D → Cs → Prop, k xs (S .un) → mi (S .un) k) (hl : xs.length ≤ sizeLine) (he : ∀ x ∈ xs, Ev me (S (.fro x)) (f x)) : Ev (mLc mi (mgName i) mYes me [i]) (S .un) (.list (xs.map f)) := fun k q =>
  hi _ ⟨hl, by
    show mLcL _ _ _ _ _ xs [] ((S .un).set i .un)
    rw [hs]
    exact lcM hs xs [] he q⟩
def ownOut (x : Str) : List D := names.map fun y => .bool (decide (x = y))
def rngOut (i : Int) : List D := (intsD 0 17).map fun d => match d with
  | .int j => .bool (decide (i = j))
  | _ => .none
def rootsOut (bm : List Value) : List D := [] ++ (if bm.contains (.type "ValueError") = true then [D.int 0] else []) ++ (if bm.contains (.type "KeyError") = true then [D.int 1] else []) ++ (if bm.contains (.type "IndexError") = true then [D.int 2] else []) ++ (if bm.contains (.type "LookupError") = true then [D.int 3] else []) ++ (if bm.contains (.type "OverflowError") = true then [D.int 4] else []) ++ (if bm.contains (.type "RuntimeError") = true then [D.int 5] else [])
/-- what the law asks of the i-th refusal, of the class x -/
structure Chk (i : Nat) (x : Str) : Prop where
  c : ∃ p, clsT x = some p ∧ shp (.list (rootsOut p.2)) ∧ ∃ u, duesD[i]? = some (.list u) ∧ shp (.list u) ∧ eqd (.list (rootsOut p.2)) (.list u) = true
  o : shp (.list (ownOut x)) ∧ shp (.list (rngOut (i : Int))) ∧ eqd (.list (ownOut x)) (.list (rngOut (i : Int))) = true
theorem chk_all : ∀ i x, names[i]? = some x → Chk i x := by
  intro i x h
  have hl : i < 17 := (List.getElem?_eq_some_iff.mp h).1
  have go : ∀ {x : Str} {fs : List Str} {i : Nat} {bm : List Value} {u : List D}, clsT x = some (fs, bm) → duesD[i]? = some (.list u) → (shp (.list (rootsOut bm)) ∧ shp (.list u) ∧ eqd (.list (rootsOut bm)) (.list u) = true ∧ shp (.list (ownOut x)) ∧ shp (.list (rngOut (i : Int))) ∧ eqd (.list (ownOut x)) (.list (rngOut (i : Int))) = true) → Chk i x :=
    fun h1 h2 ⟨a, b, c, d, e, f⟩ => ⟨⟨_, h1, a, _, h2, b, c⟩, d, e, f⟩
  match i, hl, h with
  | 0, _, h => cases h; exact go (i := 0) (fs := ["part"]) (bm := bmV) (u := [.int 0]) (by rfl) (by rfl) (by unfold shp; decide +kernel)
  | 1, _, h => cases h; exact go (i := 1) (fs := ["part"]) (bm := bmV) (u := [.int 0]) (by rfl) (by rfl) (by unfold shp; decide +kernel)
  | 2, _, h => cases h; exact go (i := 2) (fs := ["number"]) (bm := bmV) (u := [.int 0]) (by rfl) (by rfl) (by unfold shp; decide +kernel)
  | 3, _, h => cases h; exact go (i := 3) (fs := []) (bm := bmV) (u := [.int 0]) (by rfl) (by rfl) (by unfold shp; decide +kernel)
  | 4, _, h => cases h; exact go (i := 4) (fs := []) (bm := bmV) (u := [.int 0]) (by rfl) (by rfl) (by unfold shp; decide +kernel)
  | 5, _, h => cases h; exact go (i := 5) (fs := ["number"]) (bm := bmV) (u := [.int 0]) (by rfl) (by rfl) (by unfold shp; decide +kernel)
  | 6, _, h => cases h; exact go (i := 6) (fs := ["house"]) (bm := bmV) (u := [.int 0]) (by rfl) (by rfl) (by unfold shp; decide +kernel)
  | 7, _, h => cases h; exact go (i := 7) (fs := ["number"]) (bm := bmV) (u := [.int 0]) (by rfl) (by rfl) (by unfold shp; decide +kernel)
  | 8, _, h => cases h; exact go (i := 8) (fs := ["where", "rule"]) (bm := bmV) (u := [.int 0]) (by rfl) (by rfl) (by unfold shp; decide +kernel)
  | 9, _, h => cases h; exact go (i := 9) (fs := ["name"]) (bm := bmK) (u := [.int 1, .int 3]) (by rfl) (by rfl) (by unfold shp; decide +kernel)
  | 10, _, h => cases h; exact go (i := 10) (fs := ["name"]) (bm := bmL) (u := [.int 3]) (by rfl) (by rfl) (by unfold shp; decide +kernel)
  | 11, _, h => cases h; exact go (i := 11) (fs := ["name"]) (bm := bmL) (u := [.int 3]) (by rfl) (by rfl) (by unfold shp; decide +kernel)
  | 12, _, h => cases h; exact go (i := 12) (fs := []) (bm := bmL) (u := [.int 3]) (by rfl) (by rfl) (by unfold shp; decide +kernel)
  | 13, _, h => cases h; exact go (i := 13) (fs := []) (bm := bmO) (u := [.int 4]) (by rfl) (by rfl) (by unfold shp; decide +kernel)
  | 14, _, h => cases h; exact go (i := 14) (fs := ["many"]) (bm := bmO) (u := [.int 4]) (by rfl) (by rfl) (by unfold shp; decide +kernel)
  | 15, _, h => cases h; exact go (i := 15) (fs := ["name"]) (bm := bmR) (u := [.int 5]) (by rfl) (by rfl) (by unfold shp; decide +kernel)
  | 16, _, h => cases h; exact go (i := 16) (fs := []) (bm := bmR) (u := [.int 5]) (by rfl) (by rfl) (by unfold shp; decide +kernel)
end K04

namespace K04
open PySem PySem.Spec PyProof.Rows L2 Br Dl
theorem seq_setO {i : Nat} {m : ME} {b : MS} {E : Dn} {ρ : Cs} (q : m ρ fun d ρ1 => b E (ρ1.set i (.own d))) : sSeq (sSetO i m) b E ρ := q
theorem seq_for {mi : MI} {mg : MG} {bd b : MS} {E : Dn} {ρ : Cs} (q : mi ρ fun xs ρ1 => sForL mg bd { E with nx := b E } xs ρ1) : sSeq (sFor mi mg bd) b E ρ := q
theorem ev_mulL {ma mb : ME} {ρ : Cs} {xs ys : List D} {n : Int} (h : Ev ma ρ (.list xs)) (g : Ev mb ρ (.int n)) (h0 : 0 ≤ n) (h1 : n ≤ 1000) (hl : xs.length ≤ 1000) (e : (List.replicate n.toNat xs).flatten = ys) : Ev (mMulL ma mb) ρ (.list ys) := fun k q => h _ (g _ ⟨h0, h1, hl, by rw [e]; exact q⟩)
theorem ev_cat {ma mb : ME} {ρ : Cs} {xs ys zs : List D} (h : Ev ma ρ (.list xs)) (g : Ev mb ρ (.list ys)) (hl : xs.length + ys.length ≤ 1000) (e : xs ++ ys = zs) : Ev (mOp oAdd ma mb) ρ (.list zs) := ev_op h g fun k q => ⟨small hl, by rw [e]; exact q⟩
theorem ne_l {xs ys : List D} (a : shp (.list xs)) (b : shp (.list ys)) (e : eqd (.list xs) (.list ys) = true) (k : D → Prop) (q : k (.bool false)) : oNe (.list xs) (.list ys) k := ⟨a, b, by rw [e]; exact q⟩
theorem ne_s {x : Str} (k : D → Prop) (q : k (.bool false)) : oNe (.str x) (.str x) k := by
  show k (.bool (!decide (x = x)))
  rw [decide_eq_true rfl]; exact q
section
variable {ns : List Int} {c1 c2 c3 c4 c5 c6 c7 c8 c9 c10 : Cell} {u v : D}
theorem dues_ev {ρ : Cs} : Ev dues_e ρ (.list duesD) := by
  have l : ∀ {is : List D} {ma : MA}, is.length ≤ 1000 → EvA ma ρ is → Ev (mLst (aCons (mLst ma) aNil)) ρ (.list [.list is]) := fun h g => ev_lst (eva_cons (ev_lst g h) eva_nil) (Nat.le_of_ble_eq_true rfl)
  refine ev_cat (xs := (dueL.take 15).map fun is => .list (is.map .int)) (ys := [.list [.int 5], .list [.int 5]]) ?_ (ev_mulL (xs := [.list [.int 5]]) (n := 2) (l (Nat.le_of_ble_eq_true rfl) (eva_cons ev_c eva_nil)) ev_c (by decide) (by decide) (Nat.le_of_ble_eq_true rfl) rfl) (Nat.le_of_ble_eq_true rfl) rfl
  refine ev_cat (xs := (dueL.take 13).map fun is => .list (is.map .int)) (ys := [.list [.int 4], .list [.int 4]]) ?_ (ev_mulL (xs := [.list [.int 4]]) (n := 2) (l (Nat.le_of_ble_eq_true rfl) (eva_cons ev_c eva_nil)) ev_c (by decide) (by decide) (Nat.le_of_ble_eq_true rfl) rfl) (Nat.le_of_ble_eq_true rfl) rfl
  refine ev_cat (xs := (dueL.take 10).map fun is => .list (is.map .int)) (ys := [.list [.int 3], .list [.int 3], .list [.int 3]]) ?_ (ev_mulL (xs := [.list [.int 3]]) (n := 3) (l (Nat.le_of_ble_eq_true rfl) (eva_cons ev_c eva_nil)) ev_c (by decide) (by decide) (Nat.le_of_ble_eq_true rfl) rfl) (Nat.le_of_ble_eq_true rfl) rfl
  refine ev_cat (xs := (dueL.take 9).map fun is => .list (is.map .int)) (ys := [.list [.int 1, .int 3]]) ?_ (l (Nat.le_of_ble_eq_true rfl) (eva_cons ev_c (eva_cons ev_c eva_nil))) (Nat.le_of_ble_eq_true rfl) rfl
  exact ev_mulL (xs := [.list [.int 0]]) (n := 9) (l (Nat.le_of_ble_eq_true rfl) (eva_cons ev_c eva_nil)) ev_c (by decide) (by decide) (Nat.le_of_ble_eq_true rfl) rfl
/-- one refusal asked -/
theorem chk_s {E : Dn} {x : Str} {fs : List Str} {ds : List D} {i : Nat} (hi : names[i]? = some x) (q : E.nx (Wc ns (.fro (.list duesD)) c2 c3 c4 c5 c6 c7 (.fro (.int i)) (.fro (.exc x fs ds)) .un)) :
    chk_body E (Wc ns (.fro (.list duesD)) c2 c3 c4 c5 c6 c7 (.fro (.int i)) (.fro (.exc x fs ds)) .un) := by
  obtain ⟨⟨p, hp, s1, w, hw, s2, e1⟩, s3, s4, e2⟩ := chk_all i x hi
  have hr : ∀ k : List D → Cs → Prop, k (intsD 0 17) (Wc ns (.fro (.list duesD)) c2 c3 c4 c5 c6 c7 (.fro (.int i)) (.fro (.exc x fs ds)) .un) → (mRng1 (aCons (mC (.int 17)) aNil)) (Wc ns (.fro (.list duesD)) c2 c3 c4 c5 c6 c7 (.fro (.int i)) (.fro (.exc x fs ds)) .un) k := fun k h => ⟨by decide, by decide, h⟩
  have L : Ev (mLc (mRng1 (aCons (mC (.int 17)) aNil)) (mgName 10) mYes (mOp oEq (mVar 8) (mVar 10)) [10]) (Wc ns (.fro (.list duesD)) c2 c3 c4 c5 c6 c7 (.fro (.int i)) (.fro (.exc x fs ds)) .un) (.list (rngOut (i : Int))) :=
    ev_lcM (S := fun c => Wc ns (.fro (.list duesD)) c2 c3 c4 c5 c6 c7 (.fro (.int i)) (.fro (.exc x fs ds)) c) (fun _ _ => rfl) hr (by rw [show (intsD 0 17).length = 17 from by unfold intsD; simp]; exact small (by decide)) fun d hd => by
      obtain ⟨j, _, rfl⟩ := List.mem_map.mp (show d ∈ (List.range 17).map fun i => D.int (0 + (i : Nat)) from hd)
      exact ev_op (a := .int i) (b := .int (0 + (j : Nat))) (ev_var rfl) (ev_var rfl) fun k q => q
  have O : Ev (mCall F_law_own 0 (rCons (mVar 9) rNil)) (Wc ns (.fro (.list duesD)) c2 c3 c4 c5 c6 c7 (.fro (.int i)) (.fro (.exc x fs ds)) .un) (.list (ownOut x)) := ev_call1 (ev_var rfl) fun k q => own_s hp q
  have R : Ev (mCall F_law_roots 0 (rCons (mVar 9) rNil)) (Wc ns (.fro (.list duesD)) c2 c3 c4 c5 c6 c7 (.fro (.int i)) (.fro (.exc x fs ds)) .un) (.list (rootsOut p.2)) := ev_call1 (ev_var rfl) fun k q => roots_s (isR_of hp) (isR_of hp) (isR_of hp) (isR_of hp) (isR_of hp) (isR_of hp) rfl q
  have U : Ev (mOp oIx (mVar 1) (mVar 8)) (Wc ns (.fro (.list duesD)) c2 c3 c4 c5 c6 c7 (.fro (.int i)) (.fro (.exc x fs ds)) .un) (.list w) := ev_op (a := .list duesD) (b := .int i) (ev_var rfl) (ev_var rfl) fun k q => by
    show match atI duesD ((i : Nat) : Int) with | some d => k d | none => False
    rw [atI_nat hw]
    exact q
  exact ret0_s (evt_or (evt_test (ev_op O L (ne_l s3 s4 e2))) (evt_test (ev_op R U (ne_l s1 s2 e1)))) q
theorem chk_L {E : Dn} : ∀ (es : List (Nat × D)) (c8 c9 : Cell), (∀ e ∈ es, ∃ x fs ds, names[e.1]? = some x ∧ e.2 = .exc x fs ds) → (∀ c8 c9, E.nx (Wc ns (.fro (.list duesD)) c2 c3 c4 c5 c6 c7 c8 c9 .un)) →
    sForL (mgTup 2 (mgCons (mgName 8) (mgCons (mgName 9) mgNil))) chk_body E (es.map fun e => .tuple .mad [.int (e.1 : Nat), e.2]) (Wc ns (.fro (.list duesD)) c2 c3 c4 c5 c6 c7 c8 c9 .un)
  | [], c8, c9, _, q => q c8 c9
  | (i, d) :: es, c8, c9, h, q => by
    obtain ⟨x, fs, ds, hi, e⟩ := h (i, d) List.mem_cons_self
    dsimp only at hi e
    subst e
    refine ⟨rfl, ?_⟩
    refine (chk_s hi ?_ : chk_body _ (Wc ns (.fro (.list duesD)) c2 c3 c4 c5 c6 c7 (.fro (.int i)) (.fro (.exc x fs ds)) .un))
    exact chk_L es _ _ (fun e m => h e (List.mem_cons_of_mem _ m)) q
end
end K04

namespace K04
open PySem PySem.Spec PyProof.Rows L2 Br Dl
section
variable {ns : List Int} {c1 c2 c3 c4 c5 c6 c7 c8 c9 c10 : Cell} {u v : D}
def enumM (u v : D) : List (Nat × D) := (madeV u v).zipIdx.map fun z => (z.2, z.1)
theorem enum_eq : enumD (madeV u v) = (enumM u v).map fun e => .tuple .mad [.int (e.1 : Nat), e.2] := by
  unfold enumD enumM
  rw [List.map_map]
  rfl
theorem enum_ok : ∀ e ∈ enumM u v, ∃ x fs ds, names[e.1]? = some x ∧ e.2 = .exc x fs ds := by
  intro e he
  simp only [enumM, madeV, List.zipIdx_cons, List.zipIdx_nil, List.map_cons, List.map_nil, List.mem_cons, List.not_mem_nil, or_false] at he
  rcases he with rfl | rfl | rfl | rfl | rfl | rfl | rfl | rfl | rfl | rfl | rfl | rfl | rfl | rfl | rfl | rfl | rfl <;> exact ⟨_, _, _, rfl, rfl⟩
theorem seq_enum {j : Nat} {xs : List D} {mg : MG} {bd b : MS} {E : Dn} {ρ : Cs} (h : ρ[j]? = some (.fro (.list xs))) (q : sForL mg bd { E with nx := b E } (enumD xs) ρ) : sSeq (sFor (mEnum (aCons (mVar j) aNil)) mg bd) b E ρ := by
  refine seq_for (?_ : mEnum (aCons (mVar j) aNil) ρ _)
  unfold mEnum aCons mVar
  rw [h]
  exact q
theorem fields_t (hu : Tg u) (hv : Tg v) : EvT f1_t (Wc ns c1 c2 c3 c4 (.fro u) (.fro v) (.fro (.list (madeV u v))) c8 c9 c10) false := by
  have A : Ev (mUn oRepr (mCall F_law_fields 0 (rCons (mVar 7) rNil))) (Wc ns c1 c2 c3 c4 (.fro u) (.fro v) (.fro (.list (madeV u v))) c8 c9 c10) (.str (toPy (.list (fieldsV u v))).shown) := ev_un (ev_call1 (ev_var rfl) fun k q => fields_made q) fun k q => repr_fields hu hv q
  have B : Ev (mOp oAdd (mOp oAdd (mMulL (mLst (aCons (mVar 5) aNil)) (mC (.int 7))) (mLst (aCons (mVar 6) aNil))) (mMulL (mLst (aCons (mVar 5) aNil)) (mC (.int 5)))) (Wc ns c1 c2 c3 c4 (.fro u) (.fro v) (.fro (.list (madeV u v))) c8 c9 c10) (.list (fieldsV u v)) :=
    ev_cat (xs := [u, u, u, u, u, u, u, v]) (ys := [u, u, u, u, u]) (ev_cat (xs := [u, u, u, u, u, u, u]) (ys := [v]) (ev_mulL (xs := [u]) (n := 7) (ev_lst (eva_cons (ev_var rfl) eva_nil) (Nat.le_of_ble_eq_true rfl)) ev_c (by decide) (by decide) (Nat.le_of_ble_eq_true rfl) rfl) (ev_lst (eva_cons (ev_var rfl) eva_nil) (Nat.le_of_ble_eq_true rfl)) (Nat.le_of_ble_eq_true rfl) rfl)
      (ev_mulL (xs := [u]) (n := 5) (ev_lst (eva_cons (ev_var rfl) eva_nil) (Nat.le_of_ble_eq_true rfl)) ev_c (by decide) (by decide) (Nat.le_of_ble_eq_true rfl) rfl) (Nat.le_of_ble_eq_true rfl) rfl
  exact evt_test (ev_op A (ev_un B fun k q => repr_fields hu hv q) ne_s)
theorem named_t (hu : Tg u) (hv : Tg v) : EvT f2_t (Wc ns c1 c2 c3 c4 (.fro u) (.fro v) (.fro (.list (madeV u v))) c8 c9 c10) false := by
  have A : Ev (mUn oRepr (mCall F_law_fields 0 (rCons (mVar 7) rNil))) (Wc ns c1 c2 c3 c4 (.fro u) (.fro v) (.fro (.list (madeV u v))) c8 c9 c10) (.str (toPy (.list (fieldsV u v))).shown) := ev_un (ev_call1 (ev_var rfl) fun k q => fields_made q) fun k q => repr_fields hu hv q
  have N : Ev (mCall F_law_named 0 (rCons (mVar 5) (rCons (mVar 6) rNil))) (Wc ns c1 c2 c3 c4 (.fro u) (.fro v) (.fro (.list (madeV u v))) c8 c9 c10) (.list (namedV u v)) := ev_call2 (ev_var rfl) (ev_var rfl) fun k q => named_s hu.ok hv.ok q
  have B : Ev (mUn oRepr (mCall F_law_fields 0 (rCons (mCall F_law_named 0 (rCons (mVar 5) (rCons (mVar 6) rNil))) rNil))) (Wc ns c1 c2 c3 c4 (.fro u) (.fro v) (.fro (.list (madeV u v))) c8 c9 c10) (.str (toPy (.list (fieldsV u v))).shown) := ev_un (ev_call1 N fun k q => fields_named q) fun k q => repr_fields hu hv q
  exact evt_test (ev_op B A ne_s)
/-- the things -/
structure Ths (xs : List D) : Prop where
  len : xs.length = 7
  tg : ∀ d ∈ xs, Tg d
theorem things_s {k : D → Cs → Prop} (p : PL c3) (h : ∀ xs c3, Ths xs → PL c3 → k (.list xs) (Wc ns c1 c2 c3 c4 c5 c6 c7 c8 c9 c10)) : things_e (Wc ns c1 c2 c3 c4 c5 c6 c7 c8 c9 c10) k := by
  refine lst_st (a_st ?_)
  refine call_take (j := 3) (n := 1000000000) rfl p (fun k' q => (show (0 ≤ (9 : Int) ∧ (9 : Int) ≤ 1000000 ∧ (10 : Int).natAbs < 2 ^ 64) ∧ k' (.int (10 ^ 9)) _ from ⟨by decide, q⟩)) (by decide) (by decide) fun t c' t0 t1 p' => ?_
  refine (?_ : (mCall F_law_letters 1 (rOwn 3 (rCons (mC (.int 4)) rNil))) (Wc ns c1 c2 c' c4 c5 c6 c7 c8 c9 c10) _)
  obtain ⟨a, b, rfl, q'⟩ := id p'
  refine call_j (j := 3) (x := .list [.int a, .int b]) rfl ?_
  refine aft (x := .list [.int a, .int b]) rfl (letters_s p' (by decide) (by decide) fun z c'' lz lz2 p'' => ?_)
  refine ⟨show 2 ≤ sizeLine from small (by decide), show 1 ≤ sizeLine from small (by decide), show 7 ≤ sizeLine from small (by decide), ?_⟩
  refine h [.int t, .none, .str z, .tuple .mad [.str "a", .int 3], .list [.int 1], .bool true, .int (-1)] c'' ⟨rfl, fun d hd => ?_⟩ p''
  simp only [List.mem_cons, List.not_mem_nil, or_false] at hd
  rcases hd with rfl | rfl | rfl | rfl | rfl | rfl | rfl
  · exact tg_int t0 t1
  · exact tg_none
  · exact tg_str lz (by rw [lz2]; decide)
  · exact tg_tup
  · exact tg_lst
  · exact tg_true
  · exact tg_neg
theorem one_s {xs : List D} {k : D → Cs → Prop} (h : Ths xs) (p : PL c3) (q : ∀ d c3, Tg d → PL c3 → k d (Wc ns c1 c2 c3 (.fro (.list xs)) c5 c6 c7 c8 c9 c10)) : one_e (Wc ns c1 c2 c3 (.fro (.list xs)) c5 c6 c7 c8 c9 c10) k := by
  refine op_var (d := .list xs) rfl ?_
  refine call_take (j := 3) (n := 7) rfl p (fun k' q => q) (by decide) (by decide) fun t c' t0 t1 p' => ?_
  exact pick t0 (by rw [h.len]; exact t1) fun x m => q x c' (h.tg x m) p'
theorem body_s {E : Dn} {i : Int} (i0 : 0 ≤ i) (i1 : i < 1000) (q : ∀ c3 c4 c5 c6 c7 c8 c9, E.nx (Wc ns (.fro (.list duesD)) (.fro (.int i)) c3 c4 c5 c6 c7 c8 c9 .un)) : law_body E (Wc ns (.fro (.list duesD)) (.fro (.int i)) c3 c4 c5 c6 c7 c8 c9 .un) := by
  refine seq_setO (show F_law_pool [.scr ns, .int i] _ from pool_s i0 i1 fun x y x0 y0 y1 => ?_)
  have P0 : PL (.own (.list [.int x, .int y])) := ⟨x, y, rfl, x0, y0, y1⟩
  refine seq_set' (things_s P0 fun xs c3 hx p => ?_)
  refine (?_ : sSeq (sSet 5 one_e) _ _ (Wc ns (.fro (.list duesD)) (.fro (.int i)) c3 (.fro (.list xs)) c5 c6 c7 c8 c9 .un))
  refine seq_set' (one_s hx p fun u c3 hu p => ?_)
  refine (?_ : sSeq (sSet 6 one_e) _ _ (Wc ns (.fro (.list duesD)) (.fro (.int i)) c3 (.fro (.list xs)) (.fro u) c6 c7 c8 c9 .un))
  refine seq_set' (one_s hx p fun v c3 hv p => ?_)
  have M : Ev (mCall F_law_made 0 (rCons (mVar 5) (rCons (mVar 6) rNil))) (Wc ns (.fro (.list duesD)) (.fro (.int i)) c3 (.fro (.list xs)) (.fro u) (.fro v) c7 c8 c9 .un) (.list (madeV u v)) := ev_call2 (ev_var rfl) (ev_var rfl) fun k q => made_s hu.ok hv.ok q
  refine set_ev M ?_
  refine seq_enum (j := 7) (xs := madeV u v) rfl (show sForL _ chk_body _ (enumD (madeV u v)) (Wc ns (.fro (.list duesD)) (.fro (.int i)) c3 (.fro (.list xs)) (.fro u) (.fro v) (.fro (.list (madeV u v))) c8 c9 .un) from ?_)
  rw [enum_eq]
  refine chk_L _ _ _ enum_ok fun c8 c9 => ?_
  exact seq0_s (fields_t hu hv) (ret0_s (named_t hu hv) (q _ _ _ _ _ _ _))
theorem cells_L {E : Dn} : ∀ (is : List Int) (c2 c3 c4 c5 c6 c7 c8 c9 : Cell), (∀ i ∈ is, 0 ≤ i ∧ i < 1000) → (∀ c2 c3 c4 c5 c6 c7 c8 c9, E.nx (Wc ns (.fro (.list duesD)) c2 c3 c4 c5 c6 c7 c8 c9 .un)) →
    sForL (mgName 2) law_body E (is.map .int) (Wc ns (.fro (.list duesD)) c2 c3 c4 c5 c6 c7 c8 c9 .un)
  | [], c2, c3, c4, c5, c6, c7, c8, c9, _, hk => hk _ _ _ _ _ _ _ _
  | i :: is, c2, c3, c4, c5, c6, c7, c8, c9, hi, hk => by
    refine (body_s (hi i List.mem_cons_self).1 (hi i List.mem_cons_self).2 fun c3 c4 c5 c6 c7 c8 c9 => ?_ : law_body _ (Wc ns (.fro (.list duesD)) (.fro (.int i)) c3 c4 c5 c6 c7 c8 c9 .un))
    exact cells_L is _ c3 c4 c5 c6 c7 c8 c9 (fun y hy => hi y (List.mem_cons_of_mem _ hy)) hk
end
theorem law_true {ns : List Int} {k : D → List Cell → Prop} (hk : k (.bool true) []) : F_law [.fro (.scr ns)] k := by
  refine Fof.mk rfl ?_
  rw [law_eq]
  refine (set_ev dues_ev ?_ : _)
  generalize hj : (if (if (10 : Int) < (ns.length : Int) then (10 : Int) else (ns.length : Int)) > 1 then (if (10 : Int) < (ns.length : Int) then (10 : Int) else (ns.length : Int)) else 1) = j
  have b : 1 ≤ j ∧ j ≤ 10 := by subst hj; split <;> split at * <;> omega
  have ei : intsD 0 j.toNat = ((List.range j.toNat).map fun i => ((0 : Int) + (i : Nat))).map D.int := by unfold intsD; rw [List.map_map]; rfl
  refine seq_for (show -(2 ^ 62) ≤ (if (if (10 : Int) < (ns.length : Int) then (10 : Int) else (ns.length : Int)) > 1 then (if (10 : Int) < (ns.length : Int) then (10 : Int) else (ns.length : Int)) else 1) ∧ (if (if (10 : Int) < (ns.length : Int) then (10 : Int) else (ns.length : Int)) > 1 then (if (10 : Int) < (ns.length : Int) then (10 : Int) else (ns.length : Int)) else 1) < 2 ^ 62 ∧ sForL (mgName 2) law_body _ (intsD 0 (if (if (10 : Int) < (ns.length : Int) then (10 : Int) else (ns.length : Int)) > 1 then (if (10 : Int) < (ns.length : Int) then (10 : Int) else (ns.length : Int)) else 1).toNat) (Wc ns (.fro (.list duesD)) .un .un .un .un .un .un .un .un .un) from ?_)
  rw [hj, ei]
  refine ⟨by omega, by omega, cells_L _ .un .un .un .un .un .un .un .un (fun i hi => ?_) fun c2 c3 c4 c5 c6 c7 c8 c9 => hk⟩
  obtain ⟨m, hm, rfl⟩ := List.mem_map.mp hi
  have := List.mem_range.mp hm
  omega
end K04

namespace K04
open PySem PySem.Spec PyProof.Rows L2 Br Dl
theorem txt_mk {K : PySem.W.Frag} {h : Heap} {mg : Str → Option Value} (X : K.In h) (G : h.Ns mainGlobals mg)
    {f0 : Addr} {od0 an0 : Option Addr} {sl0 : Array (Option Value)} {oc0 kV0 dc0 pm0 cd0 ct0 : Value}
    (a0 : PySem.W.nsIn K mainGlobals "_law_pool" = some (some (.ref f0))) (l0 : K.lookup f0 = some ⟨oc0, od0, .func (PySem.W.fnOf "_law_pool" "_law_pool" (defArgs s_law_pool) (defBody s_law_pool) (defScope s_law_pool) .none kV0 dc0 pm0 an0 cd0 ct0), sl0⟩) (c0 : PySem.W.codeIn K cd0 "_law_pool" = true) (k0 : PySem.W.keepIn K (.ref f0) = true)
    {f1 : Addr} {od1 an1 : Option Addr} {sl1 : Array (Option Value)} {oc1 kV1 dc1 pm1 cd1 ct1 : Value}
    (a1 : PySem.W.nsIn K mainGlobals "_law_take" = some (some (.ref f1))) (l1 : K.lookup f1 = some ⟨oc1, od1, .func (PySem.W.fnOf "_law_take" "_law_take" (defArgs s_law_take) (defBody s_law_take) (defScope s_law_take) .none kV1 dc1 pm1 an1 cd1 ct1), sl1⟩) (c1 : PySem.W.codeIn K cd1 "_law_take" = true) (k1 : PySem.W.keepIn K (.ref f1) = true)
    {f2 : Addr} {od2 an2 : Option Addr} {sl2 : Array (Option Value)} {oc2 kV2 dc2 pm2 cd2 ct2 : Value}
    (a2 : PySem.W.nsIn K mainGlobals "_law_letters" = some (some (.ref f2))) (l2 : K.lookup f2 = some ⟨oc2, od2, .func (PySem.W.fnOf "_law_letters" "_law_letters" (defArgs s_law_letters) (defBody s_law_letters) (defScope s_law_letters) .none kV2 dc2 pm2 an2 cd2 ct2), sl2⟩) (c2 : PySem.W.codeIn K cd2 "_law_letters" = true) (k2 : PySem.W.keepIn K (.ref f2) = true)
    {f3 : Addr} {od3 an3 : Option Addr} {sl3 : Array (Option Value)} {oc3 kV3 dc3 pm3 cd3 ct3 : Value}
    (a3 : PySem.W.nsIn K mainGlobals "_law_made" = some (some (.ref f3))) (l3 : K.lookup f3 = some ⟨oc3, od3, .func (PySem.W.fnOf "_law_made" "_law_made" (defArgs s_law_made) (defBody s_law_made) (defScope s_law_made) .none kV3 dc3 pm3 an3 cd3 ct3), sl3⟩) (c3 : PySem.W.codeIn K cd3 "_law_made" = true) (k3 : PySem.W.keepIn K (.ref f3) = true)
    {f4 : Addr} {od4 an4 : Option Addr} {sl4 : Array (Option Value)} {oc4 kV4 dc4 pm4 cd4 ct4 : Value}
    (a4 : PySem.W.nsIn K mainGlobals "_law_named" = some (some (.ref f4))) (l4 : K.lookup f4 = some ⟨oc4, od4, .func (PySem.W.fnOf "_law_named" "_law_named" (defArgs s_law_named) (defBody s_law_named) (defScope s_law_named) .none kV4 dc4 pm4 an4 cd4 ct4), sl4⟩) (c4 : PySem.W.codeIn K cd4 "_law_named" = true) (k4 : PySem.W.keepIn K (.ref f4) = true)
    {f5 : Addr} {od5 an5 : Option Addr} {sl5 : Array (Option Value)} {oc5 kV5 dc5 pm5 cd5 ct5 : Value}
    (a5 : PySem.W.nsIn K mainGlobals "_law_own" = some (some (.ref f5))) (l5 : K.lookup f5 = some ⟨oc5, od5, .func (PySem.W.fnOf "_law_own" "_law_own" (defArgs s_law_own) (defBody s_law_own) (defScope s_law_own) .none kV5 dc5 pm5 an5 cd5 ct5), sl5⟩) (c5 : PySem.W.codeIn K cd5 "_law_own" = true) (k5 : PySem.W.keepIn K (.ref f5) = true)
    {f6 : Addr} {od6 an6 : Option Addr} {sl6 : Array (Option Value)} {oc6 kV6 dc6 pm6 cd6 ct6 : Value}
    (a6 : PySem.W.nsIn K mainGlobals "_law_roots" = some (some (.ref f6))) (l6 : K.lookup f6 = some ⟨oc6, od6, .func (PySem.W.fnOf "_law_roots" "_law_roots" (defArgs s_law_roots) (defBody s_law_roots) (defScope s_law_roots) .none kV6 dc6 pm6 an6 cd6 ct6), sl6⟩) (c6 : PySem.W.codeIn K cd6 "_law_roots" = true) (k6 : PySem.W.keepIn K (.ref f6) = true)
    {f7 : Addr} {od7 an7 : Option Addr} {sl7 : Array (Option Value)} {oc7 kV7 dc7 pm7 cd7 ct7 : Value}
    (a7 : PySem.W.nsIn K mainGlobals "_law_fields" = some (some (.ref f7))) (l7 : K.lookup f7 = some ⟨oc7, od7, .func (PySem.W.fnOf "_law_fields" "_law_fields" (defArgs s_law_fields) (defBody s_law_fields) (defScope s_law_fields) .none kV7 dc7 pm7 an7 cd7 ct7), sl7⟩) (c7 : PySem.W.codeIn K cd7 "_law_fields" = true) (k7 : PySem.W.keepIn K (.ref f7) = true)
    {f8 : Addr} {od8 an8 : Option Addr} {sl8 : Array (Option Value)} {oc8 kV8 dc8 pm8 cd8 ct8 : Value}
    (a8 : PySem.W.nsIn K mainGlobals "law" = some (some (.ref f8))) (l8 : K.lookup f8 = some ⟨oc8, od8, .func (PySem.W.fnOf "law" "law" (defArgs s_law) (defBody s_law) (defScope s_law) .none kV8 dc8 pm8 an8 cd8 ct8), sl8⟩) (c8 : PySem.W.codeIn K cd8 "law" = true) (k8 : PySem.W.keepIn K (.ref f8) = true)
    (z_IndexError : PySem.W.nsIn K mainGlobals "IndexError" = some none)
    (z_KeyError : PySem.W.nsIn K mainGlobals "KeyError" = some none)
    (z_LookupError : PySem.W.nsIn K mainGlobals "LookupError" = some none)
    (z_OverflowError : PySem.W.nsIn K mainGlobals "OverflowError" = some none)
    (z_RuntimeError : PySem.W.nsIn K mainGlobals "RuntimeError" = some none)
    (z_ValueError : PySem.W.nsIn K mainGlobals "ValueError" = some none)
    (z_enumerate : PySem.W.nsIn K mainGlobals "enumerate" = some none)
    (z_int : PySem.W.nsIn K mainGlobals "int" = some none)
    (z_isinstance : PySem.W.nsIn K mainGlobals "isinstance" = some none)
    (z_len : PySem.W.nsIn K mainGlobals "len" = some none)
    (z_max : PySem.W.nsIn K mainGlobals "max" = some none)
    (z_min : PySem.W.nsIn K mainGlobals "min" = some none)
    (z_range : PySem.W.nsIn K mainGlobals "range" = some none)
    (z_repr : PySem.W.nsIn K mainGlobals "repr" = some none)
    : Nonempty (PSigma fun T : Txt K mg => T.d_law = PySem.W.fnOf "law" "law" (defArgs s_law) (defBody s_law) (defScope s_law) .none kV8 dc8 pm8 an8 cd8 ct8) := by
  have F0 := fun_mk (st := s_law_pool) l0 c0 k0
  have b0 := F0.binds (ps := ["_law_script", "_law_k"]) fun _ _ _ _ _ _ us hl => match us, hl with | [_, _], _ => rfl
  have F1 := fun_mk (st := s_law_take) l1 c1 k1
  have b1 := F1.binds (ps := ["_law_pool_here", "_law_most"]) fun _ _ _ _ _ _ us hl => match us, hl with | [_, _], _ => rfl
  have F2 := fun_mk (st := s_law_letters) l2 c2 k2
  have b2 := F2.binds (ps := ["_law_pool_here", "_law_most"]) fun _ _ _ _ _ _ us hl => match us, hl with | [_, _], _ => rfl
  have F3 := fun_mk (st := s_law_made) l3 c3 k3
  have b3 := F3.binds (ps := ["_law_one", "_law_other"]) fun _ _ _ _ _ _ us hl => match us, hl with | [_, _], _ => rfl
  have F4 := fun_mk (st := s_law_named) l4 c4 k4
  have b4 := F4.binds (ps := ["_law_one", "_law_other"]) fun _ _ _ _ _ _ us hl => match us, hl with | [_, _], _ => rfl
  have F5 := fun_mk (st := s_law_own) l5 c5 k5
  have b5 := F5.binds (ps := ["_law_error"]) fun _ _ _ _ _ _ us hl => match us, hl with | [_], _ => rfl
  have F6 := fun_mk (st := s_law_roots) l6 c6 k6
  have b6 := F6.binds (ps := ["_law_error"]) fun _ _ _ _ _ _ us hl => match us, hl with | [_], _ => rfl
  have F7 := fun_mk (st := s_law_fields) l7 c7 k7
  have b7 := F7.binds (ps := ["_law_some"]) fun _ _ _ _ _ _ us hl => match us, hl with | [_], _ => rfl
  have F8 := fun_mk (st := s_law) l8 c8 k8
  have b8 := F8.binds (ps := ["_law_script"]) fun _ _ _ _ _ _ us hl => match us, hl with | [_], _ => rfl
  exact ⟨⟨{
    f_law_pool := f0, d_law_pool := _, F_law_pool := F0, b_law_pool := b0, kw_law_pool := fun s ws hl => match ws, hl with | [_, _], _ => .of_eq rfl, m_law_pool := PySem.W.mg_of X G a0,
    f_law_take := f1, d_law_take := _, F_law_take := F1, b_law_take := b1, kw_law_take := fun s ws hl => match ws, hl with | [_, _], _ => .of_eq rfl, m_law_take := PySem.W.mg_of X G a1,
    f_law_letters := f2, d_law_letters := _, F_law_letters := F2, b_law_letters := b2, kw_law_letters := fun s ws hl => match ws, hl with | [_, _], _ => .of_eq rfl, m_law_letters := PySem.W.mg_of X G a2,
    f_law_made := f3, d_law_made := _, F_law_made := F3, b_law_made := b3, kw_law_made := fun s ws hl => match ws, hl with | [_, _], _ => .of_eq rfl, m_law_made := PySem.W.mg_of X G a3,
    f_law_named := f4, d_law_named := _, F_law_named := F4, b_law_named := b4, kw_law_named := fun s ws hl => match ws, hl with | [_, _], _ => .of_eq rfl, m_law_named := PySem.W.mg_of X G a4,
    f_law_own := f5, d_law_own := _, F_law_own := F5, b_law_own := b5, kw_law_own := fun s ws hl => match ws, hl with | [_], _ => .of_eq rfl, m_law_own := PySem.W.mg_of X G a5,
    f_law_roots := f6, d_law_roots := _, F_law_roots := F6, b_law_roots := b6, kw_law_roots := fun s ws hl => match ws, hl with | [_], _ => .of_eq rfl, m_law_roots := PySem.W.mg_of X G a6,
    f_law_fields := f7, d_law_fields := _, F_law_fields := F7, b_law_fields := b7, kw_law_fields := fun s ws hl => match ws, hl with | [_], _ => .of_eq rfl, m_law_fields := PySem.W.mg_of X G a7,
    f_law := f8, d_law := _, F_law := F8, b_law := b8, kw_law := fun s ws hl => match ws, hl with | [_], _ => .of_eq rfl, m_law := PySem.W.mg_of X G a8,
    z_IndexError := PySem.W.mg_none_of X G z_IndexError,
    z_KeyError := PySem.W.mg_none_of X G z_KeyError,
    z_LookupError := PySem.W.mg_none_of X G z_LookupError,
    z_OverflowError := PySem.W.mg_none_of X G z_OverflowError,
    z_RuntimeError := PySem.W.mg_none_of X G z_RuntimeError,
    z_ValueError := PySem.W.mg_none_of X G z_ValueError,
    z_enumerate := PySem.W.mg_none_of X G z_enumerate,
    z_int := PySem.W.mg_none_of X G z_int,
    z_isinstance := PySem.W.mg_none_of X G z_isinstance,
    z_len := PySem.W.mg_none_of X G z_len,
    z_max := PySem.W.mg_none_of X G z_max,
    z_min := PySem.W.mg_none_of X G z_min,
    z_range := PySem.W.mg_none_of X G z_range,
    z_repr := PySem.W.mg_none_of X G z_repr
  }, rfl⟩⟩
theorem all_mk {l : PySem.W.OpenLaw} {w : World} {K : PySem.W.Frag} {mg : Str → Option Value} {fa : Addr} (hfa : mg "law" = some (.ref fa)) (T : Txt K mg) (Y : TxtX K mg w T) (hb : ∀ (s : Shared) (v : Value), BindsTo s T.d_law ⟨[v], []⟩ [("_law_script", v)]) :
    ∃ fd : FuncData, (∀ (s : Shared) (v : Value), BindsTo s fd ⟨[v], []⟩ [("_law_script", v)]) ∧ ∀ base : Heap, K.In base → base.Ns mainGlobals mg → FnG l.prog w K mg base CX0 4 fa fd ["_law_script"] (spD K 1 0 F_law) := by
  have e := hfa.symm.trans T.m_law
  cases e
  exact ⟨T.d_law, hb, fun base _ _ => (d_law T Y).ok⟩
theorem sp_end {K : PySem.W.Frag} {H : Hp} {a : Addr} {xs : List Int} (hl : xs.length ≤ 63) (hS : SqL K H a (xs.map V.int)) : spD K 1 0 F_law [.ref a] H (fun v _ => v = .bl true) fun _ _ _ => False :=
  Dl.law_end hS (law_true fun v G' r => dl_true r) Fof.mo
end K04
open PySem PySem.W PyProof.Rows
set_option maxHeartbeats 0 in
theorem PySem.Challenge.cw_branchedhall_k04_refusals_apart_holds : PySem.Challenge.rw_branchedhall_k04_refusals_apart.Holds := by
  w_on; o_law; k_head; (case hw => w_witness2)
  k_fill
  refine Br.walk_G (l := PySem.Challenge.rw_branchedhall_k04_refusals_apart) (n := 63) (k := 4) (x := "_law_script") (sp := fun K => Dl.spD K 1 0 K04.F_law) rfl (by decide) rfl ⟨rfl, by decide, by decide⟩ (fun w h Y => PySem.W.kIn_of Y) ?F (fun _ _ a xs hl hS => K04.sp_end hl hS)
  case F =>
    intro w mg fa h KX G hmg
    refine' (K04.txt_mk KX G ?a0 ?l0 ?c0 ?k0 ?a1 ?l1 ?c1 ?k1 ?a2 ?l2 ?c2 ?k2 ?a3 ?l3 ?c3 ?k3 ?a4 ?l4 ?c4 ?k4 ?a5 ?l5 ?c5 ?k5 ?a6 ?l6 ?c6 ?k6 ?a7 ?l7 ?c7 ?k7 ?a8 ?l8 ?c8 ?k8 ?z_IndexError ?z_KeyError ?z_LookupError ?z_OverflowError ?z_RuntimeError ?z_ValueError ?z_enumerate ?z_int ?z_isinstance ?z_len ?z_max ?z_min ?z_range ?z_repr).elim fun Z => (K04.txtx_mk KX G Z.1 ?hC_NoDeed ?hL_NoDeed ?ha_NoDeed ?hb_NoDeed ?hc_NoDeed ?hd_NoDeed ?hi_NoDeed ?ht_NoDeed ?hl_NoDeed ?hq_NoDeed ?hk_NoDeed ?hf_NoDeed_part ?hC_NoText ?hL_NoText ?ha_NoText ?hb_NoText ?hc_NoText ?hd_NoText ?hi_NoText ?ht_NoText ?hl_NoText ?hq_NoText ?hk_NoText ?hf_NoText_part ?hC_NoStates ?hL_NoStates ?ha_NoStates ?hb_NoStates ?hc_NoStates ?hd_NoStates ?hi_NoStates ?ht_NoStates ?hl_NoStates ?hq_NoStates ?hk_NoStates ?hf_NoStates_number ?hC_NoPaper ?hL_NoPaper ?ha_NoPaper ?hb_NoPaper ?hc_NoPaper ?hd_NoPaper ?hi_NoPaper ?ht_NoPaper ?hl_NoPaper ?hq_NoPaper ?hk_NoPaper ?hC_NoBegin ?hL_NoBegin ?ha_NoBegin ?hb_NoBegin ?hc_NoBegin ?hd_NoBegin ?hi_NoBegin ?ht_NoBegin ?hl_NoBegin ?hq_NoBegin ?hk_NoBegin ?hC_NoRow ?hL_NoRow ?ha_NoRow ?hb_NoRow ?hc_NoRow ?hd_NoRow ?hi_NoRow ?ht_NoRow ?hl_NoRow ?hq_NoRow ?hk_NoRow ?hf_NoRow_number ?hC_NoHouse ?hL_NoHouse ?ha_NoHouse ?hb_NoHouse ?hc_NoHouse ?hd_NoHouse ?hi_NoHouse ?ht_NoHouse ?hl_NoHouse ?hq_NoHouse ?hk_NoHouse ?hf_NoHouse_house ?hC_NoHouses ?hL_NoHouses ?ha_NoHouses ?hb_NoHouses ?hc_NoHouses ?hd_NoHouses ?hi_NoHouses ?ht_NoHouses ?hl_NoHouses ?hq_NoHouses ?hk_NoHouses ?hf_NoHouses_number ?hC_Barred ?hL_Barred ?ha_Barred ?hb_Barred ?hc_Barred ?hd_Barred ?hi_Barred ?ht_Barred ?hl_Barred ?hq_Barred ?hk_Barred ?hf_Barred_where ?hf_Barred_rule ?hC_NoName ?hL_NoName ?ha_NoName ?hb_NoName ?hc_NoName ?hd_NoName ?hi_NoName ?ht_NoName ?hl_NoName ?hq_NoName ?hk_NoName ?hf_NoName_name ?hC_NoState ?hL_NoState ?ha_NoState ?hb_NoState ?hc_NoState ?hd_NoState ?hi_NoState ?ht_NoState ?hl_NoState ?hq_NoState ?hk_NoState ?hf_NoState_name ?hC_NoGoing ?hL_NoGoing ?ha_NoGoing ?hb_NoGoing ?hc_NoGoing ?hd_NoGoing ?hi_NoGoing ?ht_NoGoing ?hl_NoGoing ?hq_NoGoing ?hk_NoGoing ?hf_NoGoing_name ?hC_NoHall ?hL_NoHall ?ha_NoHall ?hb_NoHall ?hc_NoHall ?hd_NoHall ?hi_NoHall ?ht_NoHall ?hl_NoHall ?hq_NoHall ?hk_NoHall ?hC_Full ?hL_Full ?ha_Full ?hb_Full ?hc_Full ?hd_Full ?hi_Full ?ht_Full ?hl_Full ?hq_Full ?hk_Full ?hC_TooMany ?hL_TooMany ?ha_TooMany ?hb_TooMany ?hc_TooMany ?hd_TooMany ?hi_TooMany ?ht_TooMany ?hl_TooMany ?hq_TooMany ?hk_TooMany ?hf_TooMany_many ?hC_Twin ?hL_Twin ?ha_Twin ?hb_Twin ?hc_Twin ?hd_Twin ?hi_Twin ?ht_Twin ?hl_Twin ?hq_Twin ?hk_Twin ?hf_Twin_name ?hC_Busy ?hL_Busy ?ha_Busy ?hb_Busy ?hc_Busy ?hd_Busy ?hi_Busy ?ht_Busy ?hl_Busy ?hq_Busy ?hk_Busy).elim fun Y => K04.all_mk hmg Z.1 Y (fun s v => by rw [Z.2]; exact .of_eq rfl)
    case a0 => k_is
    case l0 => k_is
    case c0 => k_is
    case k0 => k_is
    case a1 => k_is
    case l1 => k_is
    case c1 => k_is
    case k1 => k_is
    case a2 => k_is
    case l2 => k_is
    case c2 => k_is
    case k2 => k_is
    case a3 => k_is
    case l3 => k_is
    case c3 => k_is
    case k3 => k_is
    case a4 => k_is
    case l4 => k_is
    case c4 => k_is
    case k4 => k_is
    case a5 => k_is
    case l5 => k_is
    case c5 => k_is
    case k5 => k_is
    case a6 => k_is
    case l6 => k_is
    case c6 => k_is
    case k6 => k_is
    case a7 => k_is
    case l7 => k_is
    case c7 => k_is
    case k7 => k_is
    case a8 => k_is
    case l8 => k_is
    case c8 => k_is
    case k8 => k_is
    case z_IndexError => k_is
    case z_KeyError => k_is
    case z_LookupError => k_is
    case z_OverflowError => k_is
    case z_RuntimeError => k_is
    case z_ValueError => k_is
    case z_enumerate => k_is
    case z_int => k_is
    case z_isinstance => k_is
    case z_len => k_is
    case z_max => k_is
    case z_min => k_is
    case z_range => k_is
    case z_repr => k_is
    case hC_NoDeed => k_is
    case hL_NoDeed => k_is
    case ha_NoDeed => k_is
    case hb_NoDeed => k_is
    case hc_NoDeed => k_is
    case hd_NoDeed => k_is
    case hi_NoDeed => k_is
    case ht_NoDeed => k_is
    case hl_NoDeed => k_is
    case hq_NoDeed => k_is
    case hk_NoDeed => k_is
    case hf_NoDeed_part => k_is
    case hC_NoText => k_is
    case hL_NoText => k_is
    case ha_NoText => k_is
    case hb_NoText => k_is
    case hc_NoText => k_is
    case hd_NoText => k_is
    case hi_NoText => k_is
    case ht_NoText => k_is
    case hl_NoText => k_is
    case hq_NoText => k_is
    case hk_NoText => k_is
    case hf_NoText_part => k_is
    case hC_NoStates => k_is
    case hL_NoStates => k_is
    case ha_NoStates => k_is
    case hb_NoStates => k_is
    case hc_NoStates => k_is
    case hd_NoStates => k_is
    case hi_NoStates => k_is
    case ht_NoStates => k_is
    case hl_NoStates => k_is
    case hq_NoStates => k_is
    case hk_NoStates => k_is
    case hf_NoStates_number => k_is
    case hC_NoPaper => k_is
    case hL_NoPaper => k_is
    case ha_NoPaper => k_is
    case hb_NoPaper => k_is
    case hc_NoPaper => k_is
    case hd_NoPaper => k_is
    case hi_NoPaper => k_is
    case ht_NoPaper => k_is
    case hl_NoPaper => k_is
    case hq_NoPaper => k_is
    case hk_NoPaper => k_is
    case hC_NoBegin => k_is
    case hL_NoBegin => k_is
    case ha_NoBegin => k_is
    case hb_NoBegin => k_is
    case hc_NoBegin => k_is
    case hd_NoBegin => k_is
    case hi_NoBegin => k_is
    case ht_NoBegin => k_is
    case hl_NoBegin => k_is
    case hq_NoBegin => k_is
    case hk_NoBegin => k_is
    case hC_NoRow => k_is
    case hL_NoRow => k_is
    case ha_NoRow => k_is
    case hb_NoRow => k_is
    case hc_NoRow => k_is
    case hd_NoRow => k_is
    case hi_NoRow => k_is
    case ht_NoRow => k_is
    case hl_NoRow => k_is
    case hq_NoRow => k_is
    case hk_NoRow => k_is
    case hf_NoRow_number => k_is
    case hC_NoHouse => k_is
    case hL_NoHouse => k_is
    case ha_NoHouse => k_is
    case hb_NoHouse => k_is
    case hc_NoHouse => k_is
    case hd_NoHouse => k_is
    case hi_NoHouse => k_is
    case ht_NoHouse => k_is
    case hl_NoHouse => k_is
    case hq_NoHouse => k_is
    case hk_NoHouse => k_is
    case hf_NoHouse_house => k_is
    case hC_NoHouses => k_is
    case hL_NoHouses => k_is
    case ha_NoHouses => k_is
    case hb_NoHouses => k_is
    case hc_NoHouses => k_is
    case hd_NoHouses => k_is
    case hi_NoHouses => k_is
    case ht_NoHouses => k_is
    case hl_NoHouses => k_is
    case hq_NoHouses => k_is
    case hk_NoHouses => k_is
    case hf_NoHouses_number => k_is
    case hC_Barred => k_is
    case hL_Barred => k_is
    case ha_Barred => k_is
    case hb_Barred => k_is
    case hc_Barred => k_is
    case hd_Barred => k_is
    case hi_Barred => k_is
    case ht_Barred => k_is
    case hl_Barred => k_is
    case hq_Barred => k_is
    case hk_Barred => k_is
    case hf_Barred_where => k_is
    case hf_Barred_rule => k_is
    case hC_NoName => k_is
    case hL_NoName => k_is
    case ha_NoName => k_is
    case hb_NoName => k_is
    case hc_NoName => k_is
    case hd_NoName => k_is
    case hi_NoName => k_is
    case ht_NoName => k_is
    case hl_NoName => k_is
    case hq_NoName => k_is
    case hk_NoName => k_is
    case hf_NoName_name => k_is
    case hC_NoState => k_is
    case hL_NoState => k_is
    case ha_NoState => k_is
    case hb_NoState => k_is
    case hc_NoState => k_is
    case hd_NoState => k_is
    case hi_NoState => k_is
    case ht_NoState => k_is
    case hl_NoState => k_is
    case hq_NoState => k_is
    case hk_NoState => k_is
    case hf_NoState_name => k_is
    case hC_NoGoing => k_is
    case hL_NoGoing => k_is
    case ha_NoGoing => k_is
    case hb_NoGoing => k_is
    case hc_NoGoing => k_is
    case hd_NoGoing => k_is
    case hi_NoGoing => k_is
    case ht_NoGoing => k_is
    case hl_NoGoing => k_is
    case hq_NoGoing => k_is
    case hk_NoGoing => k_is
    case hf_NoGoing_name => k_is
    case hC_NoHall => k_is
    case hL_NoHall => k_is
    case ha_NoHall => k_is
    case hb_NoHall => k_is
    case hc_NoHall => k_is
    case hd_NoHall => k_is
    case hi_NoHall => k_is
    case ht_NoHall => k_is
    case hl_NoHall => k_is
    case hq_NoHall => k_is
    case hk_NoHall => k_is
    case hC_Full => k_is
    case hL_Full => k_is
    case ha_Full => k_is
    case hb_Full => k_is
    case hc_Full => k_is
    case hd_Full => k_is
    case hi_Full => k_is
    case ht_Full => k_is
    case hl_Full => k_is
    case hq_Full => k_is
    case hk_Full => k_is
    case hC_TooMany => k_is
    case hL_TooMany => k_is
    case ha_TooMany => k_is
    case hb_TooMany => k_is
    case hc_TooMany => k_is
    case hd_TooMany => k_is
    case hi_TooMany => k_is
    case ht_TooMany => k_is
    case hl_TooMany => k_is
    case hq_TooMany => k_is
    case hk_TooMany => k_is
    case hf_TooMany_many => k_is
    case hC_Twin => k_is
    case hL_Twin => k_is
    case ha_Twin => k_is
    case hb_Twin => k_is
    case hc_Twin => k_is
    case hd_Twin => k_is
    case hi_Twin => k_is
    case ht_Twin => k_is
    case hl_Twin => k_is
    case hq_Twin => k_is
    case hk_Twin => k_is
    case hf_Twin_name => k_is
    case hC_Busy => k_is
    case hL_Busy => k_is
    case ha_Busy => k_is
    case hb_Busy => k_is
    case hc_Busy => k_is
    case hd_Busy => k_is
    case hi_Busy => k_is
    case ht_Busy => k_is
    case hl_Busy => k_is
    case hq_Busy => k_is
    case hk_Busy => k_is
