import PyProof.Rows.All
import Wide.All
import OpenK.AllK
import Wide.FinOn
import HandS.ForMost
import HandS.IsInst
import HandS.Sort
import KE.KSortTupG
import PyProof.TupleOfSeq
import HandS.TupLe
import HandS.StrMore
import HandS.Walk
import PySem.Challenge.RW_branchedhall_k01_words_people_names_rank
set_option Elab.async false
set_option linter.all false
set_option maxRecDepth 100000
set_option maxHeartbeats 4000000
/-! Rules of my own over the hand layer: texts repeated, repr of data (no repr under way around), calls by keywords alone. -/
namespace Br
open PySem PySem.Spec PyProof.Rows L2

/-- nothing of repr is under way around -/
abbrev Bare (Ar : Around) : Prop := Ar.guards = some []

/-- FnOk, asked only where no repr is under way -/
structure FnG (P : Program) (w : World) (K : PySem.W.Frag) (mg : Str → Option Value) (base : Heap) (CX : CXT) (k : Nat) (f : Addr) (fd : FuncData) (ps : List Str) (sp : Sp) : Prop where
  many : ∀ vs H Q E, sp vs H Q E → vs.length = ps.length
  runs : ∀ (Ar : Around) (out : List Env) (st : Shared) (H : Hp) (as : Args) (us : List Value) (vs : List V) (Q : VK) (E : XK), Bare Ar → Room k Ar → Env0 P w K mg base Ar out st H → BindsTo st fd as (ps.zip us) → Vals vs us → sp vs H Q E →
    codeAny (model P w) Ar (.call (.ref f) as) (CR CX out P w H st Q E) st

section
variable {P : Program} {w : World} {K : PySem.W.Frag} {mg : Str → Option Value} {base : Heap} {CX : CXT} {k j : Nat} {f : Addr} {fd : FuncData} {ps : List Str} {sp : Sp}
theorem FnG.of (F : FnOk P w K mg base CX k f fd ps sp) : FnG P w K mg base CX k f fd ps sp :=
  ⟨F.len, fun Ar out st H as us vs Q E _ hr e0 hb r h => F.run Ar out st H as us vs Q E hr e0 hb r h⟩
theorem FnG.up (F : FnG P w K mg base CX j f fd ps sp) (h : j ≤ k) : FnG P w K mg base CX k f fd ps sp :=
  ⟨F.many, fun Ar out st H as us vs Q E g hr => F.runs Ar out st H as us vs Q E g (hr.mono h)⟩

/-- the rule for a def, as Fun.ok, with what is known of repr -/
theorem okG {x qual : Str} {st : Stmt} {N : List Str} (F : Fun K x qual st f fd) (S : FnScope N ps (defScope st)) (len : ∀ vs H Q E, sp vs H Q E → vs.length = ps.length)
    (body : ∀ (cdv : Value) (Ar : Around) (out : List Env) (s0 : Shared) (H : Hp) (vs : List V) (Q : VK) (E : XK), Bare Ar → Room k (Ar.deeper (envOfC qual (defScope st) s0.heap.objs.size f cdv)) → sp vs H Q E →
      ∃ t, PSs (cxOf CX0 P w K mg base N qual (defScope st) f cdv Ar out s0 H E).nox (defBody st) t ∧ t { nx := fun _ H' => Q .non H', rt := Q } (start N vs) H) : FnG P w K mg base CX0 (k + 1) f fd ps sp := by
  obtain ⟨oc, od, kV, dc, pm, an, cdv, ct, osl, rfl, lk, hcd⟩ := F.ex
  constructor
  · exact len
  intro Ar out s0 H as us vs Q E hG hr e0 hb r hsp
  have hl := len _ _ _ _ hsp
  have inK : K.In s0.heap := e0.mod.kin.keeps fun b o q => (e0.bs b o q).1
  have lim : s0.heap.NoLimit := e0.mod.nolimit.keeps fun b o q => (e0.bs b o q).1
  refine codeAny_call_function hr.depth (inK _ _ lk) rfl S.co S.gen rfl (PySem.W.codeRec_of inK hcd) (hb _ _ _ _ ?_)
  refine wpAny_newFunctionEnv_cells S.kind (fun ⟨n, v⟩ hy => (S.par n (List.of_mem_zip hy).1).imp id fun q => ⟨q, PySem.W.cellsFrom_some _ _ _ (.inl q)⟩) fun env he s1 x => ?_
  subst he
  refine ⟨lim.keeps x.toInCall.keep, codeAny_func ?_⟩
  obtain ⟨t, ht, hq⟩ := body cdv Ar out s0 H vs Q E hG (hr.deeper _) hsp
  have I : Inv (cxOf CX0 P w K mg base N qual (defScope st) f cdv Ar out s0 H E) [] (start N vs) H s1 := inv_start S hr.hd e0 hl r x
  refine wpAny_mono (ht.nox.run [] s1 (start N vs) H _ I hq) (fun fl s' hs => ?_) fun _ _ hs => hs
  cases fl with
  | ret u => obtain ⟨v, _, H', J, rv, q⟩ := hs; exact ⟨v, H', J.os, J.bare, J.base, J.hok, rv, q⟩
  | next => obtain ⟨_, H', J, q⟩ := hs; exact ⟨V.non, H', J.os, J.bare, J.base, J.hok, rfl, q⟩
  | brk => exact hs.elim fun _ z => z.elim fun _ z => z.2.elim
  | cont => exact hs.elim fun _ z => z.elim fun _ z => z.2.elim
end

section
variable {X : Cx} {CX : CXT} {k : Nat} {f : Addr} {fd : FuncData} {ps ks : List Str} {sp : Sp} {E : XK} {x : Str} {p pos : Pos} {e : Expr} {es : List Expr} {kws : List Keyword} {t tk : TA}
/-- a call's end, whatever was bound -/
theorem run_g {pins : List (Addr × Obj)} {σ : L2.St} {H : Hp} {s : Shared} {Q : VK} {us ws : List Value} {kw : List (Str × Value)} {vs : List V} (F : FnG X.prog X.w X.K X.mg X.base CX k f fd ps sp) (hG : Bare X.A) (hr : Room k X.A) (hx : Passes CX X E) (I : Inv X pins σ H s)
    (hb : BindsTo s fd ⟨us, kw⟩ (ps.zip ws)) (r : Vals vs ws) (h : sp vs H Q E) : wpAny (model X.prog X.w) X.A (call (.ref f) us kw) (EP X pins σ Q) X.xe s := by
  refine wpAny_call (codeAny_mono (F.runs X.A X.stack s H ⟨us, kw⟩ ws vs Q E hG hr I.env0 hb r h) fun res s' hq => ?_)
  rcases res with e | fl
  · exact hx pins σ H s e s' I hq
  · cases fl with
    | ret u => exact I.after hq
    | _ => exact False.elim hq
/-- f(e, ..) -/
theorem pe_callG (F : FnG X.prog X.w X.K X.mg X.base CX k f fd ps sp) (hG : Bare X.A) (hr : Room k X.A) (hg : Gl X x) (hm : X.mg x = some (.ref f)) (hk : PySem.W.keepIn X.K (.ref f) = true) (hb : Binds X.K fd ps []) (hx : Passes CX X E)
    (ha : PA X (e :: es) t) (hdb : (x == ("__debug__" : Str)) = false := by decide) (he : starEach (e :: es) X.env = (false, eval e X.env) :: starEach es X.env := by rfl)
    (hpl : (backTo pos (starEach es X.env)).any (·.1) = false := by rfl) : PE X (.Call (.Name x p) (e :: es) [] pos) (tCall sp [] E t) := by
  constructor
  intro pins s σ H Q I h
  refine wpAny_Call_Name_kw (ld_glob I hg hm ?_ hdb)
  refine PySem.W.callWith_K (h₀ := X.base) I.ok.mod.kin hk (thn (ha.run pos pins s σ H _ I h) fun us s1 hh => ?_) he hpl
  obtain ⟨vs, H1, I1, r, q⟩ := hh
  refine ⟨I1.kIn, ?_⟩
  rw [List.append_nil] at q
  have hl : (us ++ []).length = ps.length := by rw [List.append_nil, ← r.length]; exact F.many _ _ _ _ q
  have hbb := hb s1 us I1.kIn hl
  rw [List.append_nil] at hbb
  exact run_g F hG hr hx I1 hbb r q
/-- f(k=e, ..) -/
theorem pe_callGK (F : FnG X.prog X.w X.K X.mg X.base CX k f fd ps sp) (hG : Bare X.A) (hr : Room k X.A) (hg : Gl X x) (hm : X.mg x = some (.ref f)) (hk : PySem.W.keepIn X.K (.ref f) = true)
    (hb : ∀ (s : Shared) (ws : List Value), ws.length = ps.length → BindsTo s fd ⟨[], ks.zip ws⟩ (ps.zip ws)) (hx : Passes CX X E)
    (hkw : PK X kws tk) (hall : (backToKw pos (keywordEach kws X.env)).all (·.1.isSome) = true := by rfl) (hks : (backToKw pos (keywordEach kws X.env)).filterMap (·.1) = ks := by rfl)
    (hdb : (x == ("__debug__" : Str)) = false := by decide) (hpl : ((backTo pos (starEach [] X.env)).any (·.1) || (backToKw pos (keywordEach kws X.env)).any (·.1.isNone)) = false := by rfl) :
    PE X (.Call (.Name x p) [] kws pos) (tCall sp [] E tk) := by
  constructor
  intro pins s σ H Q I h
  refine wpAny_Call_Name_kw (ld_glob I hg hm ?_ hdb)
  refine PySem.W.callWith_KW0 (h₀ := X.base) I.ok.mod.kin hk hall (thn (hkw.run pos pins s σ H _ I h) fun ws s1 hh => ?_) hpl
  obtain ⟨zs, H1, I1, r, q⟩ := hh
  refine ⟨I1.kIn, ?_⟩
  rw [hks]
  rw [List.append_nil] at q
  exact run_g F hG hr hx I1 (hb s1 ws (by rw [← r.length]; exact F.many _ _ _ _ q)) r q
/-- the same of a def that is promised whatever is under way -/
theorem pe_callK0 (F : FnOk X.prog X.w X.K X.mg X.base CX k f fd ps sp) (hr : Room k X.A) (hg : Gl X x) (hm : X.mg x = some (.ref f)) (hk : PySem.W.keepIn X.K (.ref f) = true)
    (hb : ∀ (s : Shared) (ws : List Value), ws.length = ps.length → BindsTo s fd ⟨[], ks.zip ws⟩ (ps.zip ws)) (hx : Passes CX X E)
    (hkw : PK X kws tk) (hall : (backToKw pos (keywordEach kws X.env)).all (·.1.isSome) = true := by rfl) (hks : (backToKw pos (keywordEach kws X.env)).filterMap (·.1) = ks := by rfl)
    (hdb : (x == ("__debug__" : Str)) = false := by decide) (hpl : ((backTo pos (starEach [] X.env)).any (·.1) || (backToKw pos (keywordEach kws X.env)).any (·.1.isNone)) = false := by rfl) :
    PE X (.Call (.Name x p) [] kws pos) (tCall sp [] E tk) := by
  constructor
  intro pins s σ H Q I h
  refine wpAny_Call_Name_kw (ld_glob I hg hm ?_ hdb)
  refine PySem.W.callWith_KW0 (h₀ := X.base) I.ok.mod.kin hk hall (thn (hkw.run pos pins s σ H _ I h) fun ws s1 hh => ?_) hpl
  obtain ⟨zs, H1, I1, r, q⟩ := hh
  refine ⟨I1.kIn, ?_⟩
  rw [hks]
  rw [List.append_nil] at q
  have hbb := hb s1 ws (by rw [← r.length]; exact F.len _ _ _ _ q)
  refine wpAny_call (codeAny_mono (F.run X.A X.stack s1 H1 ⟨[], ks.zip ws⟩ ws zs Q E hr I1.env0 hbb r q) fun res s' hq => ?_)
  rcases res with e | fl
  · exact hx pins σ H1 s1 e s' I1 hq
  · cases fl with
    | ret u => exact I1.after hq
    | _ => exact False.elim hq
end

section
variable {X : Cx}
/-- repr(x) of data -/
theorem call_reprD (hu : X.A.units + 64 < cLine) (hG : Bare X.A) : CallR X (.builtin "repr") (fun xs H Q => ∃ (a : Addr) (d : PyData), xs = [.ref a] ∧ Dp X.K H (.ref a) d ∧ d.showable = true ∧ d.hasDict = false ∧ d.depth ≤ 60 ∧ d.shown.length ≤ sizeLine ∧ Q (.str d.shown) H) := by
  intro pins s σ H xs us Q I r hh
  obtain ⟨a, d, rfl, hd, h1, h2, h3, h4, q⟩ := hh
  obtain ⟨u, rfl, ru⟩ := vals1 r
  cases (show u = Value.ref a from ru)
  obtain ⟨as, hR⟩ := Dp.reads I d _ _ hd (show RelV (.ref a) (.ref a) from rfl)
  refine repr_of_reads' hR h1 (fun z => by rw [h2] at z; cases z) hG (by omega) (fun _ _ e => e) (fun h' u tk hk => ?_) h4
  exact ⟨.str d.shown, H, I.kept hk, ⟨_, rfl⟩, q⟩
/-- a text, repeated -/
def repS (z : Str) (n : Int) : Str := if n < 1 then Str.empty else if n = 1 ∨ z.length = 0 then z else ⟨(List.replicate n.toNat z.cps).foldl (· ++ ·) #[]⟩
theorem op_mulS : OpR X (binaryOp .Mult) (fun x y H Q => ∃ (z : Str) (n : Int), x = .str z ∧ y = .int n ∧ 0 ≤ n ∧ n ≤ 1000 ∧ z.length ≤ 1000 ∧ (repS z n).length ≤ sizeLine ∧ Q (.str (repS z n)) H) := by
  intro pins s σ H x y v u Q I rx ry h
  obtain ⟨z, n, rfl, rfl, h0, h1, hz, hl, q⟩ := h
  obtain ⟨t, rfl⟩ := rx
  obtain ⟨t', rfl⟩ := ry
  have hp : (z.length : Int) * n ≤ 1000 * 1000 := Int.mul_le_mul (by omega) h1 h0 (by omega)
  refine PySem.P.mul_str ?_ (fun hn _ => ?_) (fun hn _ => ?_) ?_
  · rw [decide_eq_false (by omega), decide_eq_false (by omega)]; rfl
  · have := (Int.le_ediv_iff_mul_le (a := (z.length : Int)) (b := (2 ^ 63 - 1 : Int)) (c := n) (by omega)).mpr (by omega)
    omega
  · unfold Builtin.Str.tooLong
    refine decide_eq_false ?_
    have e : ((z.length * n.toNat : Nat) : Int) = (z.length : Int) * n := by rw [Int.natCast_mul, Int.toNat_of_nonneg h0]
    have : (1000 * 1000 : Nat) ≤ sizeLine := by decide
    omega
  · revert hl q
    unfold repS
    intro hl q
    by_cases c : n < 1
    · rw [if_pos c] at q ⊢
      exact ⟨by decide, .str Str.empty, H, I.tok _, ⟨_, rfl⟩, q⟩
    · rw [if_neg c] at hl q ⊢
      by_cases c2 : n = 1 ∨ z.length = 0
      · rw [if_pos c2] at q
        rw [if_pos (by rcases c2 with e | e <;> simp [e])]
        exact ⟨.str z, H, I, ⟨t, rfl⟩, q⟩
      · rw [if_neg c2] at hl q
        rw [if_neg (by intro e; apply c2; simpa using e)]
        exact ⟨hl, .str _, H, I.tok _, ⟨_, rfl⟩, q⟩
end

/-! ### the end of a law whose def is promised where no repr is under way -/
section
variable {P : Program} {w : World} {K : PySem.W.Frag} {mg mb : Str → Option Value} {k : Nat} {fa a : Addr} {fd : FuncData} {x : Str} {sp : Sp} {s₁ : Shared} {vs : List Value} {ns : List Int}
/-- the law's call where at most the script is tracked -/
theorem lawG_at (hns : s₁.heap.Ns mainGlobals mg) (hb : s₁.heap.Ns builtinsNs mb) (hbb : ∀ x : Str, x ≠ "__name__" → mb x = bootBuiltins x) (hlim : s₁.heap.NoLimit) (hg : s₁.gens = #[])
    (ha : s₁.heap.get? a = some { cls := .type "list", data := .seq vs.toArray }) (hr : Room k callerA)
    (F : ∀ base : Heap, K.In base → base.Ns mainGlobals mg → FnG P w K mg base CX0 k fa fd [x] sp) (hbind : ∀ (s : Shared) (u : Value), BindsTo s fd ⟨[u], []⟩ [(x, u)])
    (H : Hp) (hO : Only H) (hok : HOk P w H s₁.heap) (hA : ∀ b, H b ≠ none → b = a) (KH : K.In (hidT s₁.heap H)) (h : sp [.ref a] H (fun v _ => v = .bl true) fun _ _ _ => False) :
    codeAny (model P w) callerA (.call (.ref fa) ⟨[.ref a], []⟩) (fun r s' => r = .ok (.ret (.bool true)) ∧ OldK s₁.heap s'.heap ∧ s'.os = s₁.os ∧ AllBare s'.gens) s₁ := by
  have spare : ∀ {b : Addr} {m : Str → Option Value}, s₁.heap.Ns b m → (hidT s₁.heap H).Ns b m := by
    rintro b m ⟨o, es, ep, e, d, z⟩
    refine ⟨o, es, ep, hidT_get e ?_, d, z⟩
    refine Classical.byContradiction fun n => ?_
    have e' := hA b n
    subst e'
    rw [ha] at e
    cases e
    exact nomatch (show Data.seq vs.toArray _ = Data.dict es ep from d)
  have M : Mod K mg (hidT s₁.heap H) := ⟨KH, spare hns, ⟨mb, spare hb, hbb⟩, hlim.imp fun mc q => ⟨spare q.1, q.2⟩⟩
  have e0 : Env0 P w K mg (hidT s₁.heap H) callerA [] s₁ H := ⟨rfl, M, fun b o e => of_hidT e, Nat.le_of_eq (hidT_size _ _), trivial, fun b z => (List.not_mem_nil (show b ∈ ([] : List Addr) from z)).elim, hok, .of_eq hg⟩
  refine codeAny_mono ((F _ KH (spare hns)).runs callerA [] s₁ H ⟨[.ref a], []⟩ [.ref a] [.ref a] _ _ rfl hr e0 (hbind s₁ (.ref a)) (.cons rfl .nil) h) ?_
  rintro r s' hq
  rcases r with e | fl
  · exact False.elim hq
  cases fl with
  | ret u =>
    obtain ⟨v, H', os, bare, un, hok', ru, rfl⟩ := hq
    obtain rfl : u = Value.bool true := ru
    refine ⟨rfl, OldK.of_keep fun b o e => ?_, os, bare⟩
    rcases hO b with z | ⟨ob, xs, z⟩
    · exact un.keep b o e z (fun q => nomatch (show b ∈ ([] : List Addr) from q)) (fun q => nomatch q)
    · have e1 := (hok b _ z).1
      have e2 := (hok' b _ (un.frzs b ob _ z)).1
      rw [e] at e1
      cases e1
      exact e2
  | _ => exact False.elim hq
theorem lawG_call (KX : K.In s₁.heap) (hns : s₁.heap.Ns mainGlobals mg) (hb : s₁.heap.Ns builtinsNs mb) (hbb : ∀ x : Str, x ≠ "__name__" → mb x = bootBuiltins x) (hlim : s₁.heap.NoLimit) (hg : s₁.gens = #[])
    (ha : s₁.heap.get? a = some { cls := .type "list", data := .seq vs.toArray }) (hi : IntsAre vs ns) (hl : ns.length ≤ sizeLine) (hr : Room k callerA)
    (F : ∀ base : Heap, K.In base → base.Ns mainGlobals mg → FnG P w K mg base CX0 k fa fd [x] sp) (hbind : ∀ (s : Shared) (u : Value), BindsTo s fd ⟨[u], []⟩ [(x, u)])
    (hsp : ∀ H : Hp, Only H → SqL K H a (ns.map V.int) → sp [.ref a] H (fun v _ => v = .bl true) fun _ _ _ => False) :
    codeAny (model P w) callerA (.call (.ref fa) ⟨[.ref a], []⟩) (fun r s' => r = .ok (.ret (.bool true)) ∧ OldK s₁.heap s'.heap ∧ s'.os = s₁.os ∧ AllBare s'.gens) s₁ := by
  have rv := vals_ints hi
  have zl : vs.length ≤ sizeLine := by rw [hi.length]; exact hl
  by_cases hk : K.lookup a = none
  · let H : Hp := fun b => if b = a then some (.frz { cls := .type "list", data := .seq vs.toArray } (.lst (ns.map V.int))) else none
    have at_a : H a = some (.frz { cls := .type "list", data := .seq vs.toArray } (.lst (ns.map V.int))) := if_pos rfl
    have off : ∀ b, b ≠ a → H b = none := fun b n => if_neg n
    have hA : ∀ b, H b ≠ none → b = a := fun b n => Classical.byContradiction fun z => n (off b z)
    have hO : Only H := fun b => by
      by_cases z : b = a
      · subst z; exact .inr ⟨_, _, at_a⟩
      · exact .inl (off b z)
    refine lawG_at hns hb hbb hlim hg ha hr F hbind H hO (fun b u z => ?_) hA (fun b o e => hidT_get (KX b o e) ?_) (hsp H hO (.inl (.inr ⟨_, at_a⟩)))
    · have e := hA b (by rw [z]; exact nofun)
      subst e
      rw [at_a] at z
      cases z
      exact ⟨ha, by rw [List.length_map]; exact hl, vs, _, rv, ha⟩
    · refine off b fun z => ?_
      subst z
      rw [hk] at e
      cases e
  · obtain ⟨o, ho⟩ := Option.ne_none_iff_exists'.mp hk
    have e := KX a o ho
    rw [ha] at e
    cases e
    have hO : Only (fun _ => none) := fun _ => .inl rfl
    refine lawG_at hns hb hbb hlim hg ha hr F hbind (fun _ => none) hO (fun b u z => nomatch (show (none : Option HO) = some u from z)) (fun b z => absurd rfl z) (fun b o e => hidT_get (KX b o e) rfl) (hsp _ hO ?_)
    exact .inr ⟨_, vs.toArray, _, ho, rfl, rfl, rfl, by rw [List.size_toArray]; exact zl, by simpa using rv⟩
end
theorem walk_G {l : PySem.W.OpenLaw} {n k : Nat} {q : Program} {loose : List Str} {XP : (Str → Option Value) → Heap → Prop} {YP : World → Heap → Prop} {d : DefRec} {K : Params → PySem.W.Frag} {sp : PySem.W.Frag → Sp} {x : Str}
    (hn : l.most = some n) (hn2 : n ≤ sizeLine) (hdf : d.params.defaults = []) (hr : Room k callerA) (hY : ∀ (w : World) (h : Heap), YP w h → (K w.params).In h)
    (F : ∀ (w : World) (mg : Str → Option Value) (fa : Addr) (h : Heap), (K w.params).In h → h.Ns mainGlobals mg → mg d.name = some (.ref fa) →
      ∃ fd : FuncData, (∀ (s : Shared) (u : Value), BindsTo s fd ⟨[u], []⟩ [(x, u)]) ∧ ∀ base : Heap, (K w.params).In base → base.Ns mainGlobals mg → FnG l.prog w (K w.params) mg base CX0 k fa fd [x] (sp (K w.params)))
    (hsp : ∀ (K : PySem.W.Frag) (H : Hp) (a : Addr) (ns : List Int), ns.length ≤ n → SqL K H a (ns.map V.int) → sp K [.ref a] H (fun v _ => v = .bl true) fun _ _ _ => False) :
    PySem.W.WalkO q loose XP YP l.row.toRowW d [] (fun f vs => PySem.call f vs) := by
  refine Att.attach_call hn hdf fun w s₀ s₁ mg mb fa o pm cd dc a vs ns G Y ho hd hcd hmg hobj hints hlen hg => ?_
  obtain ⟨fd, hb, hF⟩ := F w mg fa _ (hY w _ Y) G.T.g hmg
  exact lawG_call (hY w _ Y) G.T.g G.T.b G.T.builtins G.T.nolimit hg hobj hints (Nat.le_trans hlen hn2) hr hF hb fun H _ hS => hsp _ H a ns hlen hS
end Br

set_option Elab.async false
set_option linter.all false
set_option maxRecDepth 100000
set_option maxHeartbeats 4000000
/-! t < u of tuples whose items are whole numbers and texts, place by place of one kind. -/
namespace Br
open PySem PySem.Spec PyProof.Rows L2
def ltKey : Key → Key → Bool
  | .inl a, .inl b => decide (a < b)
  | .inr x, .inr y => decide (x.cps.toList < y.cps.toList)
  | _, _ => false
def lexK : List Key → List Key → Bool
  | x :: xs, y :: ys => if x = y then lexK xs ys else ltKey x y
  | [], _ :: _ => true
  | _, _ => false
/-- of one kind -/
def kin : Key → Key → Bool
  | .inl _, .inl _ => true
  | .inr _, .inr _ => true
  | _, _ => false
abbrev KeyV (k : Key) (u : Value) : Prop := RelV (kV k) u
theorem key_eqAt (Ar : Around) (s : Shared) {x y : Key} {u v : Value} (hu : KeyV x u) (hv : KeyV y v) (k : kin x y = true) : ∃ e, SeqAt.EqAt Ar s u v e ∧ (e = true ↔ x = y) := by
  match x, y, k, hu, hv with
  | .inl a, .inl b, _, hu, hv =>
    obtain ⟨t, rfl⟩ := hu
    obtain ⟨t', rfl⟩ := hv
    exact ⟨(a == b), SeqAt.EqAt.int_int a t b t', by simp⟩
  | .inr a, .inr b, _, hu, hv =>
    obtain ⟨t, rfl⟩ := hu
    obtain ⟨t', rfl⟩ := hv
    refine ⟨decide (a = b), ?_, by simp⟩
    intro prog w E Q h
    exact wpAny_eqBool_str h
theorem key_lt (Ar : Around) (s : Shared) {x y : Key} {u v : Value} (hu : KeyV x u) (hv : KeyV y v) (k : kin x y = true) (prog : Program) (w : World) (E : Value → Shared → Prop) (Q : Value → Shared → Prop) (h : Q (.bool (ltKey x y)) s) :
    wpAny (model prog w) Ar (richCompare .Lt u v) Q E s := by
  match x, y, k, hu, hv with
  | .inl a, .inl b, _, hu, hv =>
    obtain ⟨t, rfl⟩ := hu
    obtain ⟨t', rfl⟩ := hv
    exact (PyProof.Rows.lt_int h : wpAny (model prog w) Ar (compareOp .Lt (.int a t) (.int b t')) Q E s)
  | .inr a, .inr b, _, hu, hv =>
    obtain ⟨t, rfl⟩ := hu
    obtain ⟨t', rfl⟩ := hv
    exact (PySem.P.lt_str h : wpAny (model prog w) Ar (compareOp .Lt (.str a t) (.str b t')) Q E s)
section
open PySem.SeqAt
open PySem.AutoSeq1 (wpAny_loadPart')
open PySem.MeetsSeq PySem.MeetsSeq2 PySem.MeetsSeq3
theorem tuple_lt_keys (l b : Addr) (items items2 : Array Value) (n n2 : Nat) (dd dd2 : Option Addr) (sl sl2 : Array (Option Value)) (ks ms : List Key) (hi : Paired KeyV ks items.toList) (hj : Paired KeyV ms items2.toList) (hk : Paired (fun x y => kin x y = true) ks ms) :
    Meets (Builtin.«tuple.__lt__» ⟨[.ref l, .ref b], []⟩)
      (fun _ R s => s.heap.get? l = some { cls := .type "tuple", dict := dd, data := .seq items n, slots := sl } ∧ s.heap.get? b = some { cls := .type "tuple", dict := dd2, data := .seq items2 n2, slots := sl2 } ∧ R (.ok (.ret (.bool (lexK ks ms)))) s) :=
  .of_wp fun prog w Ar R s h => by
    obtain ⟨hp, gs, dr, tk, os⟩ := s
    obtain ⟨hl, hb, h⟩ := h
    have f2 := AutoSeq1.sub_tuple_tuple
    have z1 : items.size = ks.length := by rw [hi.length]; simp
    have z2 : items2.size = ms.length := by rw [hj.length]; simp
    have z3 := hk.length
    wp_walk using wpAny_loadPart' hl, wpAny_loadPart' hb, wpAny_forIn_list _ (fun rest q s' => q.1 = none ∧ s' = ⟨hp, gs, dr, tk, os⟩ ∧ ∃ (vs ws : List Value) (ks' ms' : List Key), rest = vs.zip ws ∧
      Paired KeyV ks' vs ∧ Paired KeyV ms' ws ∧ Paired (fun x y => kin x y = true) ks' ms' ∧ R (.ok (.ret (.bool (lexK ks' ms')))) ⟨hp, gs, dr, tk, os⟩) _
    case turn =>
      rintro ⟨y, x⟩ rest q s' ⟨hq, rfl, vs, ws, ks', ms', hz, hvi, hwi, hkk, hR⟩
      cases hkk with
      | nil =>
        cases hvi
        cases hz
      | cons kk hkk' =>
        cases hvi with
        | cons a hvi' =>
          cases hwi with
          | cons c hwi' =>
            rw [List.zip_cons_cons] at hz
            injection hz with hyx hrest
            injection hyx with hy hx
            subst hy hx
            unfold lexK at hR
            obtain ⟨e, he, hiff⟩ := key_eqAt Ar.in1 ⟨hp, gs, dr, tk, os⟩ a c kk
            refine wpAny_bind (he prog w _ _ ?_)
            cases e with
            | true =>
              rw [if_pos (hiff.mp rfl)] at hR
              wp_walk
              exact ⟨rfl, rfl, _, _, _, _, hrest, hvi', hwi', hkk', hR⟩
            | false =>
              rw [if_neg (fun z => absurd (hiff.mpr z) Bool.false_ne_true)] at hR
              have hri := key_lt Ar.in1 ⟨hp, gs, dr, tk, os⟩ a c kk prog w
              wp_walk using hri
              exact ⟨_, rfl, by simpa using hR⟩
    case fin =>
      rintro ⟨b1, b2⟩ s' ⟨hq, rfl, vs, ws, ks', ms', hz, hvi, hwi, hkk, hR⟩
      simp only at hq
      subst hq
      have hv : lexK ks' ms' = decide (items.size < items2.size) := by
        have e : decide (items.size < items2.size) = false := decide_eq_false (by omega)
        rw [e]
        cases hkk with
        | nil => rfl
        | cons kk hkk' =>
          cases hvi
          cases hwi
          rw [List.zip_cons_cons] at hz
          cases hz
      rw [hv] at hR
      wp_walk
      exact ⟨_, rfl, by simpa [Builtin.Tuple.tupleCompareSizes] using hR⟩
    case h =>
      exact ⟨rfl, rfl, items.toList, items2.toList, ks, ms, rfl, hi, hj, hk, h⟩
end
section
variable {X : Cx}
theorem keys_of : ∀ {ks : List Key} {us : List Value}, Vals (ks.map kV) us → Paired KeyV ks us
  | [], _, .nil => .nil
  | _ :: _, _, .cons r t => .cons r (keys_of t)
def rLtN (K : PySem.W.Frag) : R2 := fun x y H Q => ∃ (a b : Addr) (ks ms : List Key), x = .ref a ∧ y = .ref b ∧ SqT K H a (ks.map kV) ∧ SqT K H b (ms.map kV) ∧ Paired (fun x y => kin x y = true) ks ms ∧ Q (.bl (lexK ks ms)) H
/-- t < u -/
theorem op_ltN0 (hu : X.A.units < cLine) : OpR X (compareOp .Lt) (fun x y H Q => ∃ (a b : Addr) (ks ms : List Key), x = .ref a ∧ y = .ref b ∧ SqT X.K H a (ks.map kV) ∧ SqT X.K H b (ms.map kV) ∧ Paired (fun x y => kin x y = true) ks ms ∧ Q (.bl (lexK ks ms)) H) := by
  intro pins s σ H x y v u Q I rx ry h
  obtain ⟨a, b, ks, ms, rfl, rfl, ha, hb, hk, q⟩ := h
  cases rx
  cases ry
  obtain ⟨its, r1, p1, _⟩ := I.tuple ha
  obtain ⟨its2, r2, p2, _⟩ := I.tuple hb
  obtain ⟨⟨cls, dd, data, sl⟩, ho, hc, n, hd⟩ := p1
  obtain ⟨⟨cls2, dd2, data2, sl2⟩, ho2, hc2, n2, hd2⟩ := p2
  simp only at hc hd hc2 hd2
  subst hc hd hc2 hd2
  exact richCompare_meets_room (op := .Lt) ⟨_, ho, rfl⟩ ⟨_, ho2, rfl⟩ PySem.F.slot_tuple_lt PySem.F.entry_tuple_lt (PySem.F.args_tuple_lt_2 _ _) (tuple_lt_keys a b _ _ n n2 dd dd2 sl sl2 ks ms (by simpa using keys_of r1) (by simpa using keys_of r2) hk)
    ⟨ho, ho2, show Value.bool (lexK ks ms) ≠ Value.notImplemented ∧ _ from ⟨(fun x => nomatch x), ⟨.bl (lexK ks ms), H, I, rfl, q⟩⟩⟩ hu
/-- the same, the written part by its name (for use within a comprehension) -/
theorem op_ltN (K : PySem.W.Frag) (hu : X.A.units < cLine) (hK : X.K = K := by rfl) : OpR X (compareOp .Lt) (rLtN K) := by
  subst hK
  exact op_ltN0 hu
theorem ix_tupK (K : PySem.W.Frag) (hK : X.K = K := by rfl) : IxR X (rIxT K) := by
  subst hK
  exact ix_tup
theorem ix_listK (K : PySem.W.Frag) (hK : X.K = K := by rfl) : IxR X (rIxL K) := by
  subst hK
  exact ix_list
theorem op_eqDK (K : PySem.W.Frag) (hu : X.A.units + 64 < cLine) (hK : X.K = K := by rfl) : OpR X (compareOp .Eq) (rEqD K) := by
  subst hK
  exact op_eqD hu
theorem op_neDK (K : PySem.W.Frag) (hu : X.A.units + 64 < cLine) (hK : X.K = K := by rfl) : OpR X (compareOp .NotEq) (rNeD K) := by
  subst hK
  exact op_neD hu
end
end Br

set_option Elab.async false
set_option linter.all false
set_option maxRecDepth 100000
set_option maxHeartbeats 4000000
/-! Texts split by one sign: the parts are the one way to write the text as parts without the sign, with the sign between. -/
namespace Br
open PySem PySem.Spec PyProof.Rows L2
def glue1 (c : Nat) : List (List Nat) → List Nat
  | [] => []
  | [a] => a
  | a :: b :: r => a ++ c :: glue1 c (b :: r)
theorem app_sep {c : Nat} : ∀ {a b x y : List Nat}, c ∉ a → c ∉ b → a ++ c :: x = b ++ c :: y → a = b ∧ x = y
  | [], [], _, _, _, _, h => by
    simp only [List.nil_append, List.cons.injEq, true_and] at h
    exact ⟨rfl, h⟩
  | [], b :: bs, _, _, _, hb, h => by
    simp only [List.nil_append, List.cons_append, List.cons.injEq] at h
    exact absurd (h.1 ▸ List.mem_cons_self) hb
  | a :: as, [], _, _, ha, _, h => by
    simp only [List.nil_append, List.cons_append, List.cons.injEq] at h
    exact absurd (h.1 ▸ List.mem_cons_self) ha
  | a :: as, b :: bs, _, _, ha, hb, h => by
    simp only [List.cons_append, List.cons.injEq] at h
    obtain ⟨h1, h2⟩ := app_sep (fun z => ha (List.mem_cons_of_mem _ z)) (fun z => hb (List.mem_cons_of_mem _ z)) h.2
    exact ⟨by rw [h.1, h1], h2⟩
theorem glue1_inj {c : Nat} : ∀ {ps qs : List (List Nat)}, ps ≠ [] → qs ≠ [] → (∀ p ∈ ps, c ∉ p) → (∀ p ∈ qs, c ∉ p) → glue1 c ps = glue1 c qs → ps = qs
  | [], _, h, _, _, _, _ => absurd rfl h
  | _, [], _, h, _, _, _ => absurd rfl h
  | [a], [b], _, _, _, _, h => by
    have h' : a = b := h
    rw [h']
  | [a], b :: b' :: r, _, _, ha, _, h => by
    have h' : a = b ++ c :: glue1 c (b' :: r) := h
    exact absurd (h' ▸ List.mem_append_right _ List.mem_cons_self) (ha a List.mem_cons_self)
  | a :: a' :: r, [b], _, _, _, hb, h => by
    have h' : a ++ c :: glue1 c (a' :: r) = b := h
    exact absurd (h' ▸ List.mem_append_right _ List.mem_cons_self) (hb b List.mem_cons_self)
  | a :: a' :: r, b :: b' :: t, _, _, ha, hb, h => by
    obtain ⟨h1, h2⟩ := app_sep (ha a List.mem_cons_self) (hb b List.mem_cons_self) (show a ++ c :: glue1 c (a' :: r) = b ++ c :: glue1 c (b' :: t) from h)
    rw [h1, glue1_inj (List.cons_ne_nil _ _) (List.cons_ne_nil _ _) (fun p hp => ha p (List.mem_cons_of_mem _ hp)) (fun p hp => hb p (List.mem_cons_of_mem _ hp)) h2]
theorem codes_app (x y : Str) : (x ++ y).cps.toList = x.cps.toList ++ y.cps.toList := Array.toList_append
theorem join_codes (c : Nat) : ∀ ps : List Str, (Str.join ⟨#[c]⟩ ps).cps.toList = glue1 c (ps.map fun p => p.cps.toList)
  | [] => rfl
  | [x] => rfl
  | x :: y :: r => by
    show (x ++ ⟨#[c]⟩ ++ Str.join ⟨#[c]⟩ (y :: r)).cps.toList = _
    rw [codes_app, codes_app, join_codes c (y :: r), List.append_assoc]
    rfl
/-- the parts, put together again -/
theorem split_codes (z : Str) (c : Nat) : glue1 c ((Txt.split z ⟨#[c]⟩).map fun p => p.cps.toList) = z.cps.toList := by
  unfold Txt.split
  split
  · rfl
  · split
    · rfl
    · rw [← join_codes, ← StrLaws.glued_eq_join]
      exact congrArg (fun s : Str => s.cps.toList) (StrLaws.glued_between_self z ⟨#[c]⟩ (z.length + 1))
theorem split_ne (z : Str) (c : Nat) : Txt.split z ⟨#[c]⟩ ≠ [] := by
  unfold Txt.split
  split
  · exact List.cons_ne_nil _ _
  · split
    · exact List.cons_ne_nil _ _
    · exact fun h => by
        have := length_partsBetween z (Builtin.Str.occurrences z ⟨#[c]⟩ 0 z.length (z.length + 1)) (⟨#[c]⟩ : Str).length
        rw [h] at this
        cases this
/-- the one way -/
theorem split_of {c : Nat} {ps : List Str} (hn : ps ≠ []) (hf : ∀ p ∈ ps, c ∉ p.cps.toList) {z : Str} (hz : z.cps.toList = glue1 c (ps.map fun p => p.cps.toList)) : Txt.split z ⟨#[c]⟩ = ps := by
  have e := glue1_inj (c := c) (ps := (Txt.split z ⟨#[c]⟩).map fun p => p.cps.toList) (qs := ps.map fun p => p.cps.toList) (by simpa using split_ne z c) (by simpa using hn)
    (fun p hp => by obtain ⟨q, hq, rfl⟩ := List.mem_map.mp hp; exact StrLaws.split_free z c q hq) (fun p hp => by obtain ⟨q, hq, rfl⟩ := List.mem_map.mp hp; exact hf q hq) (by rw [split_codes, hz])
  have inj : ∀ {as bs : List Str}, as.map (fun p => p.cps.toList) = bs.map (fun p => p.cps.toList) → as = bs := by
    intro as
    induction as with
    | nil =>
      intro bs h
      cases bs with
      | nil => rfl
      | cons b bs => cases h
    | cons a as ih =>
      intro bs h
      cases bs with
      | nil => cases h
      | cons b bs =>
        simp only [List.map_cons, List.cons.injEq] at h
        have e : a = b := by
          cases a; cases b
          simp only [Str.mk.injEq]
          exact Array.toList_inj.mp h.1
        rw [e, ih h.2]
  exact inj e
/-- x, the sign, y -/
theorem split_two {c : Nat} {x y : Str} (hx : c ∉ x.cps.toList) (hy : c ∉ y.cps.toList) : Txt.split (x ++ ⟨#[c]⟩ ++ y) ⟨#[c]⟩ = [x, y] := by
  refine split_of (List.cons_ne_nil _ _) (fun p hp => ?_) ?_
  · rcases List.mem_cons.mp hp with rfl | hp
    · exact hx
    · rw [List.mem_singleton.mp hp]; exact hy
  · rw [codes_app, codes_app, List.append_assoc]
    rfl
end Br

set_option Elab.async false
set_option linter.all false
set_option maxRecDepth 100000
set_option maxHeartbeats 4000000
/-! sorted(xs), xs a list of tuples (text, whole number). -/
namespace Br
open PySem PySem.Spec PyProof.Rows L2
def nkeys (n : Str × Int) : List Key := [.inr n.1, .inl n.2]
def ltN (x y : Str × Int) : Bool := lexK (nkeys x) (nkeys y)
/-- a tuple (text, number) stands at v -/
def NameAt (K : PySem.W.Frag) (H : Hp) (v : V) (n : Str × Int) : Prop := ∃ b, v = .ref b ∧ SqT K H b ((nkeys n).map kV)
def rawKey (n : Str × Int) : List (Int ⊕ List Nat) := [.inr n.1.cps.toList, .inl n.2]
theorem str_ext {x y : Str} (h : x.cps.toList = y.cps.toList) : x = y := by
  cases x; cases y
  simp only [Str.mk.injEq]
  exact Array.toList_inj.mp h
theorem raw_lt (x y : Str × Int) : (listOrd itemOrd).blt (rawKey x) (rawKey y) = ltN x y := by
  obtain ⟨x, n⟩ := x
  obtain ⟨y, m⟩ := y
  show (decide (x.cps.toList < y.cps.toList) || (!decide (y.cps.toList < x.cps.toList) && (decide (n < m) || (!decide (m < n) && false)))) = (if (Sum.inr x : Key) = Sum.inr y then (if (Sum.inl n : Key) = Sum.inl m then false else decide (n < m)) else decide (x.cps.toList < y.cps.toList))
  rw [Bool.and_false, Bool.or_false]
  by_cases e : x = y
  · subst e
    have irr : decide (x.cps.toList < x.cps.toList) = false := decide_eq_false (List.lt_irrefl _)
    rw [if_pos rfl, irr]
    by_cases k : n = m
    · subst k
      rw [if_pos rfl]
      simp
    · rw [if_neg (fun z => k (Sum.inl.inj z))]
      rfl
  · rw [if_neg (fun z => e (Sum.inr.inj z))]
    by_cases h : x.cps.toList < y.cps.toList
    · rw [decide_eq_true h]
      rfl
    · have h2 : y.cps.toList < x.cps.toList := by
        have h3 : y.cps.toList ≤ x.cps.toList := List.not_lt.mp h
        rcases Std.le_iff_lt_or_eq.mp h3 with z | z
        · exact z
        · exact absurd (str_ext z.symm) e
      rw [decide_eq_false h, decide_eq_true h2]
      rfl
theorem tups_of {h : Heap} {shape : Nat → Bool} : ∀ {vs : List Value}, (∀ v ∈ vs, ∃ f, TupOf h shape v f) → ∃ fs, TupsOf h shape vs fs
  | [], _ => ⟨[], .nil⟩
  | v :: vs, k => by
    obtain ⟨f, hf⟩ := k v List.mem_cons_self
    obtain ⟨fs, hfs⟩ := tups_of fun u hu => k u (List.mem_cons_of_mem _ hu)
    exact ⟨f :: fs, .cons hf hfs⟩
section
variable {prog : Program} {w : World} {A : Around} {E : Value → Shared → Prop} {s : Shared}
/-- the heap with a new list of these at its end -/
def collected (h : Heap) (items : Array Value) : Heap := (h.push { cls := .type "list", data := .seq ([] : List Value).toArray }).update h.objs.size (Obj.mapSeq (· ++ items))
/-- collect, of a list or tuple, with the heap behind it -/
theorem collect_exact {Q : List Value → Shared → Prop} (l : Addr) {T : String} {o : Obj} {items : Array Value} {n : Nat} (hT : T = "list" ∨ T = "tuple") (ho : s.heap.get? l = some o) (hc : o.cls = .type T) (hd : o.data = .seq items n)
    (q : Q items.toList { s with heap := collected s.heap items }) (hsz : items.size ≤ sizeLine) : wpAny (model prog w) A (collect (.ref l)) Q E s := by
  unfold collect
  refine wpAny_bind (wpAny_runValue (codeAny_builtin F.entry_proto_collect ?c0))
  case c0 =>
  rw [Around.under_plainId F.plain_proto_collect _]
  show wpAny _ A.in1 (newList [] >>= fun x => again (.builtin "list.__iadd__" ⟨[x, .ref l], []⟩)) _ _ s
  refine wpAny_bind (wpAny_newObj_type (wpAny_pure ⟨plainId_quiet F.plain_list_iadd _, codeAny_builtin F.entry_list_iadd ?c1⟩))
  case c1 =>
  rw [Around.under_plainId F.plain_list_iadd _]
  show wpAny _ A.in1 (Builtin.List.listExtendWith (.ref s.heap.objs.size) (.ref l) (.ref s.heap.objs.size)) _ _ _
  have at0 : (s.heap.push { cls := .type "list", data := .seq ([] : List Value).toArray }).get? s.heap.objs.size = some { cls := .type "list", data := .seq #[] 0 } := Heap.get?_push_size _ rfl
  have at1 := Heap.get?_update_self (Obj.mapSeq (· ++ items)) at0 rfl
  have last : wpAny (model prog w) A (match Value.ref s.heap.objs.size with
      | Value.ref a => do
        match (← load a).data with
          | Data.seq xs _ => pure xs.toList
          | _ => unsupported "internal:collect"
      | _ => unsupported "internal:collect") Q E { s with heap := collected s.heap items } := by
    show wpAny _ A (load s.heap.objs.size >>= _) _ _ _
    refine wpAny_bind (wpAny_load at1 (wpAny_pure ?c2))
    case c2 =>
    show Q ((#[] : Array Value) ++ items).toList _
    rw [show ((#[] : Array Value) ++ items).toList = items.toList by simp]
    exact q
  refine wpAny_mono (wpAny_extend_seq (hsz := hsz) (A := A) (R := fun r s' => r = .ok (.ret (.ref s.heap.objs.size)) ∧ s' = { s with heap := collected s.heap items }) (s := { s with heap := s.heap.push { cls := .type "list", data := .seq ([] : List Value).toArray } }) _ l _ 0 hT at0 (Heap.get?_push_of_some _ ho) hc hd ⟨rfl, rfl⟩) (fun fin s' h => ?c3) (fun e s' h => absurd h.1 (by simp))
  case c3 =>
  cases fin with
  | done f =>
    obtain ⟨e, rfl⟩ := h
    cases e
    exact last
  | again c' =>
    refine ⟨h.1, codeAny_mono h.2 fun r s'' hr => ?_⟩
    obtain ⟨rfl, rfl⟩ := hr
    exact last
theorem collected_old {h : Heap} {items : Array Value} {b : Addr} {o : Obj} (e : h.get? b = some o) : (collected h items).get? b = some o :=
  (Heap.get?_update_other _ _ (Nat.ne_of_gt (Heap.lt_size e))).trans (Heap.get?_push_of_some _ e)
theorem collected_size {h : Heap} {items : Array Value} : (collected h items).objs.size = h.objs.size + 1 := by
  unfold collected
  rw [Heap.size_update, size_push']
theorem sorted_tupsT {shape : Nat → Bool} {l : Addr} {o : Obj} {vs fs : List Value} {n : Nat} {Q : Value → Shared → Prop} (ho : s.heap.get? l = some o) (hc : o.cls = .type "tuple") (hd : o.data = .seq vs.toArray n)
    (ht : ∀ h2 : Heap, (∀ b o, s.heap.get? b = some o → h2.get? b = some o) → TupsOf h2 shape vs fs) (hk : ∀ h2 : Heap, (∀ b o, s.heap.get? b = some o → h2.get? b = some o) → ∀ v, v ∈ vs → ∃ x, G.tupKeyC h2 shape v = some x) (hL : vs.length ≤ sizeLine)
    (h : ∀ (h1 : Heap) (st' : SortSt), (∀ b o, s.heap.get? b = some o → h1.get? b = some o) → h1.objs.size = s.heap.objs.size + 2 → h1.get? (s.heap.objs.size + 1) = some (seqObj "list" vs.toArray 0) → (arrOf st').Perm (pairsOf vs) → SortedToK (G.tupKindC h1 shape) (arrOf st') (pairsOf vs).size →
      Q (.ref (s.heap.objs.size + 1)) { s with heap := sortedHeap h1 (s.heap.objs.size + 1) vs ((arrOf st').map (·.2)) }) : wpAny (model prog w) A (call (.builtin "sorted") [.ref l]) Q E s := by
  refine Calls.call_function_entry kind_sorted plain_sorted entry_sorted (args_sorted1 _) ?_
  unfold Builtin.«sorted»
  refine wpAny_bind (m := checkCount "sorted" 1 1 _) (wpAny_pure (wpAny_bind (collect_exact l (.inr rfl) ho hc hd (wpAny_bind (wpAny_newList ?g)) (by rw [List.size_toArray]; exact hL))))
  case g =>
  have k1 : ∀ b o, s.heap.get? b = some o → ((collected s.heap vs.toArray).push (seqObj "list" vs.toArray 0)).get? b = some o := fun b o e => Heap.get?_push_of_some _ (collected_old e)
  have hoL : ((collected s.heap vs.toArray).push (seqObj "list" vs.toArray 0)).get? (s.heap.objs.size + 1) = some (seqObj "list" vs.toArray 0) := by
    rw [← collected_size (items := vs.toArray)]
    exact Heap.get?_push_size _ rfl
  show wpAny _ _ _ _ _ { s with heap := (collected s.heap vs.toArray).push (seqObj "list" vs.toArray 0) }
  rw [collected_size]
  refine wpAny_bind (wpAny_holding (wpAny_call_entry slot_list_sort ⟨_, hoL, rfl⟩ entry_list_sort (G.list_sort_tups hoL (ht _ k1) (hk _ k1) hL fun st' a1 a2 a3 => ⟨_, rfl, ?r⟩) (args_list_sort _)))
  case r => exact wpAny_pure ⟨_, rfl, h _ st' k1 (by rw [size_push', collected_size]) hoL a1 a2⟩
end
section
variable {X : Cx}
def rSortedN (K : PySem.W.Frag) : List V → Hp → VK → Prop := fun vs H Q => ∃ (a : Addr) (us : List V) (kf : V → Str × Int), vs = [.ref a] ∧ SqL K H a us ∧ (∀ u ∈ us, NameAt K H u (kf u)) ∧
  ∀ us' p, us'.Perm us → us'.Pairwise (fun x y => ltN (kf y) (kf x) = false) → H p = none → Q (.ref p) (upd H p (.lst us'))
theorem cr_sortedN : CallR X (.builtin "sorted") (rSortedN X.K) := by
  intro pins s σ H vs ws Q I r h
  obtain ⟨a, us, kf, rfl, hs, hx, q⟩ := h
  obtain ⟨its, rv, hl, hz⟩ := I.list hs
  obtain ⟨u, rfl, ru⟩ := vals1 r
  cases (show u = Value.ref a from ru)
  obtain ⟨e1, e2⟩ := refs_back rv fun x m => (hx x m).imp fun t z => z.1
  have look : ∀ v ∈ its, ∃ t o t1 t2 n, v = .ref t ∧ s.heap.get? t = some o ∧ o.cls = .type "tuple" ∧ o.data = .seq #[.str (kf (backV v)).1 t1, .int (kf (backV v)).2 t2] n := by
    intro v hv
    obtain ⟨t, rfl⟩ := e2 v hv
    obtain ⟨b, eb, hb⟩ := hx (.ref t) (by rw [e1]; exact List.mem_map.mpr ⟨_, hv, rfl⟩)
    cases eb
    obtain ⟨its2, r2, ⟨o, ho, hc, n, hd⟩, _⟩ := I.tuple hb
    obtain ⟨u1, u2, rfl, ⟨t1, rfl⟩, ⟨t2, rfl⟩⟩ := vals2 r2
    exact ⟨t, o, t1, t2, n, rfl, ho, hc, hd⟩
  let shape : Nat → Bool := fun i => decide (i = 0)
  obtain ⟨fs, ht⟩ : ∃ fs, TupsOf s.heap shape its fs := tups_of fun v hv => by
    obtain ⟨t, o, t1, t2, n, rfl, ho, hc, hd⟩ := look v hv
    exact ⟨_, t, o, _, n, rfl, ho, hc, hd, rfl, fun z => (by cases z), fun _ => ⟨_, _, rfl⟩⟩
  have key : ∀ v ∈ its, G.tupKeyC s.heap shape v = some (rawKey (kf (backV v))) := fun v hv => by
    obtain ⟨t, o, t1, t2, n, rfl, ho, hc, hd⟩ := look v hv
    unfold G.tupKeyC
    have it : G.isTupObj s.heap (.ref t) = true := by
      unfold G.isTupObj
      simp [ho, hc]
    rw [if_pos it]
    unfold tupKey
    simp only [ho, hd]
    rfl
  refine G.sorted_tups hl.isList ht (fun v hv => ⟨_, key v hv⟩) (by rw [← rv.length]; exact hz) fun st' hp hso _ => ?_
  have zz : (pairsOf its).toList = its.zip its := pairsOf_toList its
  have hpl : (arrOf st').toList.Perm (its.zip its) := by rw [← zz]; exact hp.toList
  have own : ∀ p ∈ (arrOf st').toList, p.1 = p.2 ∧ p.1 ∈ its := fun p hm => mem_zip_self (hpl.mem_iff.mp hm)
  have sz : (arrOf st').size = its.length := by
    have := hpl.length_eq
    rw [Array.length_toList, List.length_zip] at this
    omega
  have outp : ((arrOf st').toList.map (·.2)).Perm its := by
    have z := hpl.map (·.2)
    rw [List.map_snd_zip (Nat.le_refl _)] at z
    exact z
  have oute : ((arrOf st').map (·.2)).toList = (arrOf st').toList.map (·.2) := Array.toList_map
  have h3 : ∀ u ∈ (arrOf st').toList.map (·.2), ∃ a, u = Value.ref a := fun u hu => e2 u (outp.mem_iff.mp hu)
  obtain ⟨e, hn⟩ := sortedAll_at s.heap its ((arrOf st').map (·.2))
  have fresh : s.heap.objs.size ≤ s.heap.objs.size + 1 := Nat.le_succ _
  have lenO : ((arrOf st').toList.map (·.2)).length = us.length := by rw [outp.length_eq, ← rv.length]
  refine ⟨.ref (s.heap.objs.size + 1), upd H (s.heap.objs.size + 1) (.lst (((arrOf st').toList.map (·.2)).map backV)), I.laid (t' := s.toks) (fun b o z => sortedAll_old z) fresh ⟨?_, (arrOf st').toList.map (·.2), e, vals_back h3, ?_⟩, rfl, q _ _ ?_ ?_ (I.hok.fresh fresh)⟩
  · rw [List.length_map, lenO]
    exact hz
  · rw [hn, ← oute, Array.toArray_toList]
  · rw [e1]
    exact outp.map backV
  · rw [List.pairwise_iff_getElem]
    intro i j hi hj hij
    have hi' : i < (arrOf st').size := by
      rw [List.length_map, List.length_map, Array.length_toList] at hi
      exact hi
    have hj' : j < (arrOf st').size := by
      rw [List.length_map, List.length_map, Array.length_toList] at hj
      exact hj
    have kk : ∀ n (hn : n < (arrOf st').size), KK (G.tupKindC s.heap shape) (arrOf st') n = rawKey (kf (backV ((arrOf st')[n]).2)) := fun n hn => by
      have m : (arrOf st')[n] ∈ (arrOf st').toList := by
        rw [← Array.getElem_toList]
        exact List.getElem_mem _
      obtain ⟨o1, o2⟩ := own _ m
      unfold KK
      rw [Array.getElem?_eq_getElem hn]
      show (G.tupKeyC s.heap shape ((arrOf st')[n]).1).getD [] = _
      rw [key _ o2, ← o1]
      rfl
    have z := hso i j (Nat.le_of_lt hij) (by
      have : (pairsOf its).size = its.length := by rw [← Array.length_toList, zz, List.length_zip]; omega
      omega)
    rw [kk i hi', kk j hj'] at z
    have z' : (listOrd itemOrd).blt (rawKey (kf (backV ((arrOf st')[j]).2))) (rawKey (kf (backV ((arrOf st')[i]).2))) = false := z
    rw [raw_lt] at z'
    simp only [List.getElem_map, Array.getElem_toList]
    exact z'
theorem tups_ofA {P : Heap → Prop} {shape : Nat → Bool} : ∀ {vs : List Value}, (∀ v ∈ vs, ∃ f, ∀ h, P h → TupOf h shape v f) → ∃ fs, ∀ h, P h → TupsOf h shape vs fs
  | [], _ => ⟨[], fun _ _ => .nil⟩
  | v :: vs, k => by
    obtain ⟨f, hf⟩ := k v List.mem_cons_self
    obtain ⟨fs, hfs⟩ := tups_ofA fun u hu => k u (List.mem_cons_of_mem _ hu)
    exact ⟨f :: fs, fun h p => .cons (hf h p) (hfs h p)⟩
def rSortedTN (K : PySem.W.Frag) : List V → Hp → VK → Prop := fun vs H Q => ∃ (a : Addr) (us : List V) (kf : V → Str × Int), vs = [.ref a] ∧ SqT K H a us ∧ (∀ u ∈ us, NameAt K H u (kf u)) ∧
  ∀ us' p, us'.Perm us → us'.Pairwise (fun x y => ltN (kf y) (kf x) = false) → H p = none → Q (.ref p) (upd H p (.lst us'))
theorem cr_sortedTN : CallR X (.builtin "sorted") (rSortedTN X.K) := by
  intro pins s σ H vs ws Q I r h
  obtain ⟨a, us, kf, rfl, hs, hx, q⟩ := h
  obtain ⟨its, rv, ⟨o0, ho0, hc0, n0, hd0⟩, hz⟩ := I.tuple hs
  obtain ⟨u, rfl, ru⟩ := vals1 r
  cases (show u = Value.ref a from ru)
  obtain ⟨e1, e2⟩ := refs_back rv fun x m => (hx x m).imp fun t z => z.1
  have look : ∀ v ∈ its, ∃ t o t1 t2 n, v = .ref t ∧ s.heap.get? t = some o ∧ o.cls = .type "tuple" ∧ o.data = .seq #[.str (kf (backV v)).1 t1, .int (kf (backV v)).2 t2] n := by
    intro v hv
    obtain ⟨t, rfl⟩ := e2 v hv
    obtain ⟨b, eb, hb⟩ := hx (.ref t) (by rw [e1]; exact List.mem_map.mpr ⟨_, hv, rfl⟩)
    cases eb
    obtain ⟨its2, r2, ⟨o, ho, hc, n, hd⟩, _⟩ := I.tuple hb
    obtain ⟨u1, u2, rfl, ⟨t1, rfl⟩, ⟨t2, rfl⟩⟩ := vals2 r2
    exact ⟨t, o, t1, t2, n, rfl, ho, hc, hd⟩
  let shape : Nat → Bool := fun i => decide (i = 0)
  have look2 : ∀ h2 : Heap, (∀ b o, s.heap.get? b = some o → h2.get? b = some o) → ∀ v ∈ its, ∃ t o t1 t2 n, v = .ref t ∧ h2.get? t = some o ∧ o.cls = .type "tuple" ∧ o.data = .seq #[.str (kf (backV v)).1 t1, .int (kf (backV v)).2 t2] n := fun h2 k v hv => by
    obtain ⟨t, o, t1, t2, n, e, ho, hc, hd⟩ := look v hv
    exact ⟨t, o, t1, t2, n, e, k _ _ ho, hc, hd⟩
  have form : ∃ fs, ∀ h2 : Heap, (∀ b o, s.heap.get? b = some o → h2.get? b = some o) → TupsOf h2 shape its fs := by
    have one : ∀ v ∈ its, ∃ f, ∀ h2 : Heap, (∀ b o, s.heap.get? b = some o → h2.get? b = some o) → TupOf h2 shape v f := fun v hv => by
      obtain ⟨t, o, t1, t2, n, rfl, ho, hc, hd⟩ := look v hv
      exact ⟨_, fun h2 k => ⟨t, o, _, n, rfl, k _ _ ho, hc, hd, rfl, fun z => (by cases z), fun _ => ⟨_, _, rfl⟩⟩⟩
    exact tups_ofA one
  obtain ⟨fs, ht⟩ := form
  have key : ∀ h2 : Heap, (∀ b o, s.heap.get? b = some o → h2.get? b = some o) → ∀ v ∈ its, G.tupKeyC h2 shape v = some (rawKey (kf (backV v))) := fun h2 k v hv => by
    obtain ⟨t, o, t1, t2, n, rfl, ho, hc, hd⟩ := look2 h2 k v hv
    unfold G.tupKeyC
    have it : G.isTupObj h2 (.ref t) = true := by
      unfold G.isTupObj
      simp [ho, hc]
    rw [if_pos it]
    unfold tupKey
    simp only [ho, hd]
    rfl
  refine sorted_tupsT ho0 hc0 hd0 ht (fun h2 k v hv => ⟨_, key h2 k v hv⟩) (by rw [← rv.length]; exact hz) fun h1 st' k1 z1 l1 hp hso => ?_
  have zz : (pairsOf its).toList = its.zip its := pairsOf_toList its
  have hpl : (arrOf st').toList.Perm (its.zip its) := by rw [← zz]; exact hp.toList
  have own : ∀ p ∈ (arrOf st').toList, p.1 = p.2 ∧ p.1 ∈ its := fun p hm => mem_zip_self (hpl.mem_iff.mp hm)
  have sz : (arrOf st').size = its.length := by
    have := hpl.length_eq
    rw [Array.length_toList, List.length_zip] at this
    omega
  have outp : ((arrOf st').toList.map (·.2)).Perm its := by
    have z := hpl.map (·.2)
    rw [List.map_snd_zip (Nat.le_refl _)] at z
    exact z
  have oute : ((arrOf st').map (·.2)).toList = (arrOf st').toList.map (·.2) := Array.toList_map
  have h3 : ∀ u ∈ (arrOf st').toList.map (·.2), ∃ a, u = Value.ref a := fun u hu => e2 u (outp.mem_iff.mp hu)
  obtain ⟨e, hn⟩ := sortedHeap_at (vs := its) (out := (arrOf st').map (·.2)) l1
  have fresh : s.heap.objs.size ≤ s.heap.objs.size + 1 := Nat.le_succ _
  have lenO : ((arrOf st').toList.map (·.2)).length = us.length := by rw [outp.length_eq, ← rv.length]
  refine ⟨.ref (s.heap.objs.size + 1), upd H (s.heap.objs.size + 1) (.lst (((arrOf st').toList.map (·.2)).map backV)), I.laid (t' := s.toks) (fun b o z => (sortedHeap_old (Nat.ne_of_lt (Nat.lt_succ_of_lt (Heap.lt_size z))) (Heap.lt_size (k1 _ _ z))).trans (k1 _ _ z)) fresh ⟨?_, (arrOf st').toList.map (·.2), e, vals_back h3, ?_⟩, rfl, q _ _ ?_ ?_ (I.hok.fresh fresh)⟩
  · rw [List.length_map, lenO]
    exact hz
  · rw [hn, ← oute, Array.toArray_toList]
  · rw [e1]
    exact outp.map backV
  · rw [List.pairwise_iff_getElem]
    intro i j hi hj hij
    have hi' : i < (arrOf st').size := by
      rw [List.length_map, List.length_map, Array.length_toList] at hi
      exact hi
    have hj' : j < (arrOf st').size := by
      rw [List.length_map, List.length_map, Array.length_toList] at hj
      exact hj
    have kk : ∀ n (hn : n < (arrOf st').size), KK (G.tupKindC h1 shape) (arrOf st') n = rawKey (kf (backV ((arrOf st')[n]).2)) := fun n hn => by
      have m : (arrOf st')[n] ∈ (arrOf st').toList := by
        rw [← Array.getElem_toList]
        exact List.getElem_mem _
      obtain ⟨o1, o2⟩ := own _ m
      unfold KK
      rw [Array.getElem?_eq_getElem hn]
      show (G.tupKeyC h1 shape ((arrOf st')[n]).1).getD [] = _
      rw [key h1 k1 _ o2, ← o1]
      rfl
    have z := hso i j (Nat.le_of_lt hij) (by
      have : (pairsOf its).size = its.length := by rw [← Array.length_toList, zz, List.length_zip]; omega
      omega)
    rw [kk i hi', kk j hj'] at z
    have z' : (listOrd itemOrd).blt (rawKey (kf (backV ((arrOf st')[j]).2))) (rawKey (kf (backV ((arrOf st')[i]).2))) = false := z
    rw [raw_lt] at z'
    simp only [List.getElem_map, Array.getElem_toList]
    exact z'
/-- the same, by pairs -/
def rSortedTP (K : PySem.W.Frag) : List V → Hp → VK → Prop := fun vs H Q => ∃ (a : Addr) (us : List V) (ns : List (Str × Int)), vs = [.ref a] ∧ SqT K H a us ∧ Paired (NameAt K H) us ns ∧
  ∀ us' ns' p, Paired (NameAt K H) us' ns' → ns'.Perm ns → ns'.Pairwise (fun x y => ltN y x = false) → H p = none → Q (.ref p) (upd H p (.lst us'))
open Classical in
noncomputable def nameOf (K : PySem.W.Frag) (H : Hp) (v : V) : Str × Int := if h : ∃ n, NameAt K H v n then choose h else ("", 0)
theorem nameOf_at {K : PySem.W.Frag} {H : Hp} {v : V} {n : Str × Int} (h : NameAt K H v n) : NameAt K H v (nameOf K H v) := by
  unfold nameOf
  rw [dif_pos ⟨n, h⟩]
  exact Classical.choose_spec (⟨n, h⟩ : ∃ n, NameAt K H v n)
theorem cr_sortedTP : CallR X (.builtin "sorted") (rSortedTP X.K) := by
  intro pins s σ H vs ws Q I r h
  obtain ⟨a, us, ns, rfl, hs, hP, q⟩ := h
  have one : ∀ {v : V} {n : Str × Int}, NameAt X.K H v n → nameOf X.K H v = n := fun {v n} h => by
    obtain ⟨b, rfl, h1⟩ := h
    obtain ⟨b', e, h2⟩ := nameOf_at (⟨b, rfl, h1⟩ : NameAt X.K H (.ref b) n)
    cases e
    have z := I.tuple_inj h2 h1
    generalize nameOf X.K H (.ref b) = m at z
    obtain ⟨m1, m2⟩ := m
    obtain ⟨n1, n2⟩ := n
    have z' : [V.str m1, V.int m2] = [V.str n1, V.int n2] := z
    simp only [List.cons.injEq, V.str.injEq, V.int.injEq, and_true] at z'
    rw [z'.1, z'.2]
  have mp : ∀ {us : List V} {ns : List (Str × Int)}, Paired (NameAt X.K H) us ns → us.map (nameOf X.K H) = ns := by
    intro us ns h
    induction h with
    | nil => rfl
    | cons a _ ih => rw [List.map_cons, one a, ih]
  have back : ∀ {us : List V}, (∀ u ∈ us, NameAt X.K H u (nameOf X.K H u)) → Paired (NameAt X.K H) us (us.map (nameOf X.K H)) := by
    intro us
    induction us with
    | nil => exact fun _ => .nil
    | cons u us ih => exact fun h => .cons (h u List.mem_cons_self) (ih fun x hx => h x (List.mem_cons_of_mem _ hx))
  have all : ∀ {us : List V} {ns : List (Str × Int)}, Paired (NameAt X.K H) us ns → ∀ u ∈ us, NameAt X.K H u (nameOf X.K H u) := by
    intro us ns h
    induction h with
    | nil => exact fun _ z => nomatch z
    | cons a _ ih =>
      intro u hu
      rcases List.mem_cons.mp hu with rfl | hu
      · exact nameOf_at a
      · exact ih u hu
  refine cr_sortedTN pins s σ H [.ref a] ws Q I r ⟨a, us, nameOf X.K H, rfl, hs, all hP, fun us' p hp ho np => ?_⟩
  refine q us' (us'.map (nameOf X.K H)) p (back fun u hu => all hP u (hp.mem_iff.mp hu)) ?_ (List.pairwise_map.mpr ho) np
  rw [← mp hP]
  exact hp.map _
end
end Br

set_option Elab.async false
set_option linter.all false
set_option maxRecDepth 100000
set_option maxHeartbeats 4000000
/-! t <= u of names; what isascii, isalpha, islower, isprintable tell; partition by one sign. -/
namespace Br
open PySem PySem.Spec PyProof.Rows L2
def rLeN (K : PySem.W.Frag) : R2 := fun x y H Q => ∃ (a b : Addr) (n m : Str × Int), x = .ref a ∧ y = .ref b ∧ SqT K H a ((nkeys n).map kV) ∧ SqT K H b ((nkeys m).map kV) ∧ Q (.bl (!ltN m n)) H
theorem le_two (n m : Str × Int) : Ob.lexAt (fun j => if j = 0 then decide (n.1 = m.1) else decide (n.2 = m.2)) (fun j => if j = 0 then !decide (m.1.cps.toList < n.1.cps.toList) else decide (n.2 ≤ m.2)) (decide (2 ≤ 2)) 0 (min 2 2) = !ltN m n := by
  obtain ⟨x, i⟩ := n
  obtain ⟨y, j⟩ := m
  show (if decide (x = y) = true then (if decide (i = j) = true then true else decide (i ≤ j)) else !decide (y.cps.toList < x.cps.toList)) = !(if (Sum.inr y : Key) = .inr x then (if (Sum.inl j : Key) = .inl i then false else decide (j < i)) else decide (y.cps.toList < x.cps.toList))
  by_cases h : x = y
  · subst h
    rw [if_pos (decide_eq_true rfl), if_pos rfl]
    by_cases k : i = j
    · subst k
      rw [if_pos (decide_eq_true rfl), if_pos rfl]
      rfl
    · rw [if_neg (by rw [decide_eq_false k]; exact Bool.false_ne_true), if_neg (fun z => k (Sum.inl.inj z).symm)]
      by_cases l : i ≤ j
      · rw [decide_eq_true l, decide_eq_false (by omega)]; rfl
      · rw [decide_eq_false l, decide_eq_true (by omega)]; rfl
  · rw [if_neg (by rw [decide_eq_false h]; exact Bool.false_ne_true), if_neg (fun z => h (Sum.inr.inj z).symm)]
section
variable {X : Cx}
theorem op_leN0 (hu : X.A.units < cLine) : OpR X (compareOp .LtE) (rLeN X.K) := by
  intro pins s σ H x y v u Q I rx ry h
  obtain ⟨a, b, n, m, rfl, rfl, ha, hb, q⟩ := h
  cases rx
  cases ry
  obtain ⟨its, r1, p1, _⟩ := I.tuple ha
  obtain ⟨its2, r2, p2, _⟩ := I.tuple hb
  replace r1 : Vals [V.str n.1, V.int n.2] its := r1
  replace r2 : Vals [V.str m.1, V.int m.2] its2 := r2
  cases r1 with
  | cons c1 r1 =>
  cases r1 with
  | cons c2 r1 =>
  cases r1
  cases r2 with
  | cons d1 r2 =>
  cases r2 with
  | cons d2 r2 =>
  cases r2
  obtain ⟨t1, rfl⟩ := c1
  obtain ⟨t2, rfl⟩ := c2
  obtain ⟨u1, rfl⟩ := d1
  obtain ⟨u2, rfl⟩ := d2
  have R := Ob.RcOp.tuples_le (A := X.A) (s := s) (e := fun j => if j = 0 then decide (n.1 = m.1) else decide (n.2 = m.2)) (r := fun j => if j = 0 then !decide (m.1.cps.toList < n.1.cps.toList) else decide (n.2 ≤ m.2)) p1 p2 hu
    (fun j h1 h2 => by
      match j, h1 with
      | 0, _ => exact fun prog w E Q h => wpAny_eqBool_str h
      | 1, _ =>
        have z : (n.2 == m.2) = decide (n.2 = m.2) := by
          by_cases q : n.2 = m.2
          · rw [decide_eq_true q]; exact beq_iff_eq.mpr q
          · rw [decide_eq_false q]; exact beq_eq_false_iff_ne.mpr q
        show SeqAt.EqAt X.A.in1 s _ _ (decide (n.2 = m.2))
        rw [← z]
        exact SeqAt.EqAt.int_int _ _ _ _
      | j + 2, h1 => exact absurd h1 (by simp))
    (fun j h1 h2 _ => by
      match j, h1 with
      | 0, _ => exact fun _ _ _ _ h => PySem.P.le_str h
      | 1, _ => exact Ob.RcOp.le_int _ _ _ _
      | j + 2, h1 => exact absurd h1 (by simp))
  have z : wpAny (model X.prog X.w) X.A (compareOp .LtE (.ref a) (.ref b)) (EP X pins σ Q) X.xe s := R X.prog X.w X.xe (EP X pins σ Q) (by
    show EP X pins σ Q (.bool (Ob.lexAt _ _ (decide (2 ≤ 2)) 0 (min 2 2))) s
    rw [le_two]
    exact ⟨.bl _, H, I, rfl, q⟩)
  exact z
theorem op_leN (K : PySem.W.Frag) (hu : X.A.units < cLine) (hK : X.K = K := by rfl) : OpR X (compareOp .LtE) (rLeN K) := by
  subst hK
  exact op_leN0 hu
end
/-! ### texts -/
def letC (c : Nat) : Bool := decide (97 ≤ c) && decide (c ≤ 122)
def lettersS (z : Str) : Bool := !decide (z.length = 0) && z.cps.toList.all letC
def wordS (z : Str) : Bool := lettersS z && decide (z.length ≤ 8)
def at1 : Str := "@"
def personS (z : Str) : Bool := match Txt.split z at1 with
  | [a, b] => wordS a && wordS b
  | _ => false
def signC (c : Nat) : Bool := decide (32 ≤ c) && decide (c ≤ 126)
theorem cls_low : ∀ c, c < 128 → (Unicode.isAlpha c && !(Unicode.isUpper c || Unicode.isTitle c)) = letC c := by decide +kernel
theorem cls_low2 : ∀ c, c < 128 → Unicode.isLower c = letC c := by decide +kernel
theorem letC_lt {c : Nat} (h : letC c = true) : c < 128 := by
  have := of_decide_eq_true (Bool.and_eq_true_iff.mp h).2
  omega
theorem low3 (z : Str) : (Txt.isascii z && (Txt.isalpha z && Txt.islower z)) = lettersS z := by
  have e1 : Txt.isascii z = z.cps.toList.all fun c => decide (c < 128) := by
    unfold Txt.isascii
    exact (Array.all_toList ..).symm
  have e2 : Txt.isalpha z = (!decide (z.length = 0) && z.cps.toList.all Unicode.isAlpha) := by
    unfold Txt.isalpha
    rw [← Array.all_toList]
    congr 1
    by_cases h : z.length = 0
    · rw [h]; rfl
    · rw [decide_eq_false h, decide_eq_true (show z.length > 0 by omega)]; rfl
  have e3 : Txt.islower z = (z.cps.toList.any Unicode.isLower && !z.cps.toList.any fun c => Unicode.isUpper c || Unicode.isTitle c) := by
    unfold Txt.islower
    rw [← Array.any_toList, ← Array.any_toList]
  rw [e1, e2, e3]
  unfold lettersS
  have hl : z.length = z.cps.toList.length := (Array.length_toList ..).symm
  rw [hl]
  generalize z.cps.toList = l
  cases h : l.all letC with
  | true =>
    have hm := List.all_eq_true.mp h
    have a1 : (l.all fun c => decide (c < 128)) = true := List.all_eq_true.mpr fun c hc => decide_eq_true (letC_lt (hm c hc))
    have a2 : l.all Unicode.isAlpha = true := List.all_eq_true.mpr fun c hc => by
      have := cls_low c (letC_lt (hm c hc))
      rw [hm c hc] at this
      exact (Bool.and_eq_true_iff.mp this).1
    have a3 : (l.any fun c => Unicode.isUpper c || Unicode.isTitle c) = false := List.any_eq_false.mpr fun c hc => by
      have := cls_low c (letC_lt (hm c hc))
      rw [hm c hc] at this
      have := (Bool.and_eq_true_iff.mp this).2
      intro h
      rw [h] at this
      cases this
    rw [a1, a2, a3]
    cases l with
    | nil => rfl
    | cons c r =>
      have : Unicode.isLower c = true := by rw [cls_low2 c (letC_lt (hm c List.mem_cons_self)), hm c List.mem_cons_self]
      rw [List.any_cons, this]
      rfl
  | false =>
    rw [Bool.and_false]
    cases h1 : l.all fun c => decide (c < 128) with
    | false => rfl
    | true =>
      rw [Bool.true_and]
      cases h2 : l.all Unicode.isAlpha with
      | false => rw [Bool.and_false, Bool.false_and]
      | true =>
        cases h3 : l.any fun c => Unicode.isUpper c || Unicode.isTitle c with
        | true => rw [Bool.not_true, Bool.and_false, Bool.and_false]
        | false =>
          refine absurd (List.all_eq_true.mpr fun c hc => ?_) (by rw [h]; exact Bool.false_ne_true)
          rw [← cls_low c (of_decide_eq_true (List.all_eq_true.mp h1 c hc)), List.all_eq_true.mp h2 c hc]
          have := List.any_eq_false.mp h3 c hc
          rw [Bool.eq_false_iff.mpr this]
          rfl
theorem word_free {z : Str} (h : wordS z = true) : 64 ∉ z.cps.toList := fun k => by
  have := List.all_eq_true.mp (Bool.and_eq_true_iff.mp (Bool.and_eq_true_iff.mp h).1).2 64 k
  exact absurd this (by decide)
theorem at1_eq : at1 = (⟨#[64]⟩ : Str) := by decide +kernel
/-- one sign, the first place of it -/
theorem part_one (z : Str) (c : Nat) : (c ∉ z.cps.toList ∧ Txt.partition z ⟨#[c]⟩ = (z, Str.empty, Str.empty)) ∨
    (∃ p q, Txt.partition z ⟨#[c]⟩ = (p, ⟨#[c]⟩, q) ∧ c ∉ p.cps.toList ∧ z.cps.toList = p.cps.toList ++ c :: q.cps.toList) := by
  unfold Txt.partition
  rcases StrLaws.occ_head z ⟨#[c]⟩ 1 (Nat.le_refl 1) with ⟨e, hn⟩ | ⟨i, r, e, ha, hn⟩
  · refine .inl ⟨fun h => ?_, by rw [e]⟩
    obtain ⟨i, hi⟩ := List.getElem?_of_mem h
    exact hn i ((StrLaws.subAt_one z c i).mpr hi)
  · refine .inr ⟨Builtin.Str.strSub z 0 i, Builtin.Str.strSub z (i + 1) z.length, by rw [e]; rfl, fun h => ?_, ?_⟩
    · rw [StrLaws.strSub_toList, List.drop_zero, Nat.sub_zero] at h
      obtain ⟨k, hk⟩ := List.getElem?_of_mem h
      rw [List.getElem?_take] at hk
      split at hk
      · rename_i ki
        exact hn k ki ((StrLaws.subAt_one z c k).mpr hk)
      · cases hk
    · have hi := (StrLaws.subAt_one z c i).mp ha
      have hl : z.cps.toList.length = z.length := Array.length_toList ..
      rw [StrLaws.strSub_toList, StrLaws.strSub_toList, List.drop_zero, Nat.sub_zero]
      generalize z.cps.toList = l at hi hl
      have h1 : i < l.length := (List.getElem?_eq_some_iff.mp hi).1
      have h2 : l[i] = c := (List.getElem?_eq_some_iff.mp hi).2
      have e3 : (l.drop (i + 1)).take (z.length - (i + 1)) = l.drop (i + 1) := List.take_of_length_le (by rw [List.length_drop]; omega)
      rw [e3, ← h2, List.getElem_cons_drop h1, List.take_append_drop]
theorem person_part (z : Str) : personS z = (wordS (Txt.partition z at1).1 && wordS (Txt.partition z at1).2.2) := by
  have w0 : wordS Str.empty = false := by decide +kernel
  unfold personS
  rw [at1_eq]
  rcases part_one z 64 with ⟨h, e⟩ | ⟨p, q, e, hp, hz⟩
  · have es : Txt.split z ⟨#[64]⟩ = [z] := split_of (List.cons_ne_nil _ _) (fun p hp => by rw [List.mem_singleton.mp hp]; exact h) rfl
    rw [e, es]
    show false = (wordS z && wordS Str.empty)
    rw [w0, Bool.and_false]
  · rw [e]
    show _ = (wordS p && wordS q)
    by_cases hq : 64 ∈ q.cps.toList
    · have wq : wordS q = false := Bool.eq_false_iff.mpr fun h => word_free h hq
      rw [wq, Bool.and_false]
      have hf := StrLaws.split_free z 64
      have hc := split_codes z 64
      generalize Txt.split z ⟨#[64]⟩ = ys at *
      match ys, hf, hc with
      | [], _, _ => rfl
      | [_], _, _ => rfl
      | [a, b], hf, hc =>
        have h2 : a.cps.toList ++ 64 :: b.cps.toList = z.cps.toList := hc
        rw [hz] at h2
        have := (app_sep (hf a List.mem_cons_self) hp h2).2
        exact absurd (this ▸ hq) (hf b (List.mem_cons_of_mem _ List.mem_cons_self))
      | _ :: _ :: _ :: _, _, _ => rfl
    · have es : Txt.split z ⟨#[64]⟩ = [p, q] := split_of (List.cons_ne_nil _ _) (fun x hx => by
        rcases List.mem_cons.mp hx with rfl | hx
        · exact hp
        · rw [List.mem_singleton.mp hx]; exact hq) hz
      rw [es]
theorem part_parts (z : Str) (c : Nat) : (Txt.partition z ⟨#[c]⟩).1.length ≤ z.length ∧ (Txt.partition z ⟨#[c]⟩).2.2.length ≤ z.length ∧
    (∀ x ∈ (Txt.partition z ⟨#[c]⟩).1.cps.toList, x ∈ z.cps.toList) ∧ ∀ x ∈ (Txt.partition z ⟨#[c]⟩).2.2.cps.toList, x ∈ z.cps.toList := by
  have hl : ∀ y : Str, y.length = y.cps.toList.length := fun y => (Array.length_toList ..).symm
  rcases part_one z c with ⟨h, e⟩ | ⟨p, q, e, hp, hz⟩
  · rw [e]
    exact ⟨Nat.le_refl _, Nat.zero_le _, fun _ h => h, fun x h => nomatch h⟩
  · rw [e]
    refine ⟨?_, ?_, fun x h => by rw [hz]; exact List.mem_append_left _ h, fun x h => by rw [hz]; exact List.mem_append_right _ (List.mem_cons_of_mem _ h)⟩
    · show p.length ≤ z.length
      rw [hl p, hl z, hz, List.length_append]
      omega
    · show q.length ≤ z.length
      rw [hl q, hl z, hz, List.length_append, List.length_cons]
      omega
theorem cls_print : ∀ c, c < 128 → Unicode.isPrintable c = signC c := by decide +kernel
theorem say3 (z : Str) : (Txt.isascii z && Txt.isprintable z) = z.cps.toList.all signC := by
  have e1 : Txt.isascii z = z.cps.toList.all fun c => decide (c < 128) := by
    unfold Txt.isascii
    exact (Array.all_toList ..).symm
  have e2 : Txt.isprintable z = z.cps.toList.all Unicode.isPrintable := by
    unfold Txt.isprintable
    exact (Array.all_toList ..).symm
  rw [e1, e2]
  generalize z.cps.toList = l
  induction l with
  | nil => rfl
  | cons c l ih =>
    rw [List.all_cons, List.all_cons, List.all_cons, ← ih]
    by_cases h : c < 128
    · rw [decide_eq_true h, cls_print c h]
      cases signC c <;> cases (l.all fun c => decide (c < 128)) <;> rfl
    · have : signC c = false := by
        unfold signC
        rw [decide_eq_false (show ¬ c ≤ 126 by omega), Bool.and_false]
      rw [this, decide_eq_false h]
      rfl
end Br

set_option Elab.async false
set_option linter.all false
set_option maxRecDepth 100000
set_option maxHeartbeats 4000000
/-! Words, people, names, ranks: the program's looks and the law's own are one function of the thing. -/
namespace K01
open PySem PySem.Spec PyProof.Rows L2 Br
def top (i : Nat) : Stmt := PySem.Challenge.pw_branchedhall_k01_words_people_names_rank.main.body.getD i (.Pass ⟨0, 0, 0, 0⟩)
abbrev s_is_whole : Stmt := top 4
theorem sc_is_whole : FnScope ["thing"] ["thing"] (defScope s_is_whole) := ⟨rfl, rfl, rfl, by decide +kernel, rfl, by decide +kernel, by decide +kernel⟩
abbrev s_is_word : Stmt := top 5
theorem sc_is_word : FnScope ["thing"] ["thing"] (defScope s_is_word) := ⟨rfl, rfl, rfl, by decide +kernel, rfl, by decide +kernel, by decide +kernel⟩
abbrev s_is_person : Stmt := top 6
theorem sc_is_person : FnScope ["thing", "word", "at", "house"] ["thing"] (defScope s_is_person) := ⟨rfl, rfl, rfl, by decide +kernel, rfl, by decide +kernel, by decide +kernel⟩
abbrev s_is_name : Stmt := top 7
theorem sc_is_name : FnScope ["thing", "house", "number"] ["thing"] (defScope s_is_name) := ⟨rfl, rfl, rfl, by decide +kernel, rfl, by decide +kernel, by decide +kernel⟩
abbrev s_is_rank : Stmt := top 8
theorem sc_is_rank : FnScope ["thing"] ["thing"] (defScope s_is_rank) := ⟨rfl, rfl, rfl, by decide +kernel, rfl, by decide +kernel, by decide +kernel⟩
abbrev s_house_of : Stmt := top 9
theorem sc_house_of : FnScope ["person"] ["person"] (defScope s_house_of) := ⟨rfl, rfl, rfl, by decide +kernel, rfl, by decide +kernel, by decide +kernel⟩
abbrev s_law_pool : Stmt := top 11
theorem sc_law_pool : FnScope ["_law_script", "_law_k", "_law_cell", "_law_size", "_law_mixed"] ["_law_script", "_law_k"] (defScope s_law_pool) := ⟨rfl, rfl, rfl, by decide +kernel, rfl, by decide +kernel, by decide +kernel⟩
abbrev s_law_take : Stmt := top 12
theorem sc_law_take : FnScope ["_law_pool_here", "_law_many", "_law_found"] ["_law_pool_here", "_law_many"] (defScope s_law_take) := ⟨rfl, rfl, rfl, by decide +kernel, rfl, by decide +kernel, by decide +kernel⟩
abbrev s_law_letters : Stmt := top 13
theorem sc_law_letters : FnScope ["_law_pool_here", "_law_many", "_law_letters_here", "_law_turn"] ["_law_pool_here", "_law_many"] (defScope s_law_letters) := ⟨rfl, rfl, rfl, by decide +kernel, rfl, by decide +kernel, by decide +kernel⟩
abbrev s_law_signs : Stmt := top 14
theorem sc_law_signs : FnScope ["_law_pool_here", "_law_found", "_law_sign", "_law_at"] ["_law_pool_here"] (defScope s_law_signs) := ⟨rfl, rfl, rfl, by decide +kernel, rfl, by decide +kernel, by decide +kernel⟩
abbrev s_law_is_word : Stmt := top 15
theorem sc_law_is_word : FnScope ["_law_item", "_law_sign"] ["_law_item"] (defScope s_law_is_word) := ⟨rfl, rfl, rfl, by decide +kernel, rfl, by decide +kernel, by decide +kernel⟩
abbrev s_law_is_person : Stmt := top 16
theorem sc_law_is_person : FnScope ["_law_item", "_law_part"] ["_law_item"] (defScope s_law_is_person) := ⟨rfl, rfl, rfl, by decide +kernel, rfl, by decide +kernel, by decide +kernel⟩
abbrev s_law_within : Stmt := top 17
theorem sc_law_within : FnScope ["_law_item", "_law_least", "_law_most"] ["_law_item", "_law_least", "_law_most"] (defScope s_law_within) := ⟨rfl, rfl, rfl, by decide +kernel, rfl, by decide +kernel, by decide +kernel⟩
abbrev s_law_is_title : Stmt := top 18
theorem sc_law_is_title : FnScope ["_law_item"] ["_law_item"] (defScope s_law_is_title) := ⟨rfl, rfl, rfl, by decide +kernel, rfl, by decide +kernel, by decide +kernel⟩
abbrev s_law_right : Stmt := top 19
theorem sc_law_right : FnScope ["_law_item", "_law_due"] ["_law_item"] (defScope s_law_right) := ⟨rfl, rfl, rfl, by decide +kernel, rfl, by decide +kernel, by decide +kernel⟩
abbrev s_law : Stmt := top 20
theorem sc_law : FnScope ["_law_script", "_law_item", "_law_k", "_law_pool_here", "_law_one", "_law_other", "_law_both", "_law_size", "_law_some"] ["_law_script"] (defScope s_law) := ⟨rfl, rfl, rfl, by decide +kernel, rfl, by decide +kernel, by decide +kernel⟩
/-- what the top has left -/
structure Txt (K : PySem.W.Frag) (mg : Str → Option Value) where
  f_is_whole : Addr
  d_is_whole : FuncData
  F_is_whole : Fun K "is_whole" "is_whole" s_is_whole f_is_whole d_is_whole
  b_is_whole : Binds K d_is_whole ["thing"] []
  kw_is_whole : ∀ (s : Shared) (ws : List Value), ws.length = 1 → BindsTo s d_is_whole ⟨[], (["thing"] : List Str).zip ws⟩ ((["thing"] : List Str).zip ws)
  m_is_whole : mg "is_whole" = some (.ref f_is_whole)
  f_is_word : Addr
  d_is_word : FuncData
  F_is_word : Fun K "is_word" "is_word" s_is_word f_is_word d_is_word
  b_is_word : Binds K d_is_word ["thing"] []
  kw_is_word : ∀ (s : Shared) (ws : List Value), ws.length = 1 → BindsTo s d_is_word ⟨[], (["thing"] : List Str).zip ws⟩ ((["thing"] : List Str).zip ws)
  m_is_word : mg "is_word" = some (.ref f_is_word)
  f_is_person : Addr
  d_is_person : FuncData
  F_is_person : Fun K "is_person" "is_person" s_is_person f_is_person d_is_person
  b_is_person : Binds K d_is_person ["thing"] []
  kw_is_person : ∀ (s : Shared) (ws : List Value), ws.length = 1 → BindsTo s d_is_person ⟨[], (["thing"] : List Str).zip ws⟩ ((["thing"] : List Str).zip ws)
  m_is_person : mg "is_person" = some (.ref f_is_person)
  f_is_name : Addr
  d_is_name : FuncData
  F_is_name : Fun K "is_name" "is_name" s_is_name f_is_name d_is_name
  b_is_name : Binds K d_is_name ["thing"] []
  kw_is_name : ∀ (s : Shared) (ws : List Value), ws.length = 1 → BindsTo s d_is_name ⟨[], (["thing"] : List Str).zip ws⟩ ((["thing"] : List Str).zip ws)
  m_is_name : mg "is_name" = some (.ref f_is_name)
  f_is_rank : Addr
  d_is_rank : FuncData
  F_is_rank : Fun K "is_rank" "is_rank" s_is_rank f_is_rank d_is_rank
  b_is_rank : Binds K d_is_rank ["thing"] []
  kw_is_rank : ∀ (s : Shared) (ws : List Value), ws.length = 1 → BindsTo s d_is_rank ⟨[], (["thing"] : List Str).zip ws⟩ ((["thing"] : List Str).zip ws)
  m_is_rank : mg "is_rank" = some (.ref f_is_rank)
  f_house_of : Addr
  d_house_of : FuncData
  F_house_of : Fun K "house_of" "house_of" s_house_of f_house_of d_house_of
  b_house_of : Binds K d_house_of ["person"] []
  kw_house_of : ∀ (s : Shared) (ws : List Value), ws.length = 1 → BindsTo s d_house_of ⟨[], (["person"] : List Str).zip ws⟩ ((["person"] : List Str).zip ws)
  m_house_of : mg "house_of" = some (.ref f_house_of)
  f_law_pool : Addr
  d_law_pool : FuncData
  F_law_pool : Fun K "_law_pool" "_law_pool" s_law_pool f_law_pool d_law_pool
  b_law_pool : Binds K d_law_pool ["_law_script", "_law_k"] []
  kw_law_pool : ∀ (s : Shared) (ws : List Value), ws.length = 2 → BindsTo s d_law_pool ⟨[], (["_law_script", "_law_k"] : List Str).zip ws⟩ ((["_law_script", "_law_k"] : List Str).zip ws)
  m_law_pool : mg "_law_pool" = some (.ref f_law_pool)
  f_law_take : Addr
  d_law_take : FuncData
  F_law_take : Fun K "_law_take" "_law_take" s_law_take f_law_take d_law_take
  b_law_take : Binds K d_law_take ["_law_pool_here", "_law_many"] []
  kw_law_take : ∀ (s : Shared) (ws : List Value), ws.length = 2 → BindsTo s d_law_take ⟨[], (["_law_pool_here", "_law_many"] : List Str).zip ws⟩ ((["_law_pool_here", "_law_many"] : List Str).zip ws)
  m_law_take : mg "_law_take" = some (.ref f_law_take)
  f_law_letters : Addr
  d_law_letters : FuncData
  F_law_letters : Fun K "_law_letters" "_law_letters" s_law_letters f_law_letters d_law_letters
  b_law_letters : Binds K d_law_letters ["_law_pool_here", "_law_many"] []
  kw_law_letters : ∀ (s : Shared) (ws : List Value), ws.length = 2 → BindsTo s d_law_letters ⟨[], (["_law_pool_here", "_law_many"] : List Str).zip ws⟩ ((["_law_pool_here", "_law_many"] : List Str).zip ws)
  m_law_letters : mg "_law_letters" = some (.ref f_law_letters)
  f_law_signs : Addr
  d_law_signs : FuncData
  F_law_signs : Fun K "_law_signs" "_law_signs" s_law_signs f_law_signs d_law_signs
  b_law_signs : Binds K d_law_signs ["_law_pool_here"] []
  kw_law_signs : ∀ (s : Shared) (ws : List Value), ws.length = 1 → BindsTo s d_law_signs ⟨[], (["_law_pool_here"] : List Str).zip ws⟩ ((["_law_pool_here"] : List Str).zip ws)
  m_law_signs : mg "_law_signs" = some (.ref f_law_signs)
  f_law_is_word : Addr
  d_law_is_word : FuncData
  F_law_is_word : Fun K "_law_is_word" "_law_is_word" s_law_is_word f_law_is_word d_law_is_word
  b_law_is_word : Binds K d_law_is_word ["_law_item"] []
  kw_law_is_word : ∀ (s : Shared) (ws : List Value), ws.length = 1 → BindsTo s d_law_is_word ⟨[], (["_law_item"] : List Str).zip ws⟩ ((["_law_item"] : List Str).zip ws)
  m_law_is_word : mg "_law_is_word" = some (.ref f_law_is_word)
  f_law_is_person : Addr
  d_law_is_person : FuncData
  F_law_is_person : Fun K "_law_is_person" "_law_is_person" s_law_is_person f_law_is_person d_law_is_person
  b_law_is_person : Binds K d_law_is_person ["_law_item"] []
  kw_law_is_person : ∀ (s : Shared) (ws : List Value), ws.length = 1 → BindsTo s d_law_is_person ⟨[], (["_law_item"] : List Str).zip ws⟩ ((["_law_item"] : List Str).zip ws)
  m_law_is_person : mg "_law_is_person" = some (.ref f_law_is_person)
  f_law_within : Addr
  d_law_within : FuncData
  F_law_within : Fun K "_law_within" "_law_within" s_law_within f_law_within d_law_within
  b_law_within : Binds K d_law_within ["_law_item", "_law_least", "_law_most"] []
  kw_law_within : ∀ (s : Shared) (ws : List Value), ws.length = 3 → BindsTo s d_law_within ⟨[], (["_law_item", "_law_least", "_law_most"] : List Str).zip ws⟩ ((["_law_item", "_law_least", "_law_most"] : List Str).zip ws)
  m_law_within : mg "_law_within" = some (.ref f_law_within)
  f_law_is_title : Addr
  d_law_is_title : FuncData
  F_law_is_title : Fun K "_law_is_title" "_law_is_title" s_law_is_title f_law_is_title d_law_is_title
  b_law_is_title : Binds K d_law_is_title ["_law_item"] []
  kw_law_is_title : ∀ (s : Shared) (ws : List Value), ws.length = 1 → BindsTo s d_law_is_title ⟨[], (["_law_item"] : List Str).zip ws⟩ ((["_law_item"] : List Str).zip ws)
  m_law_is_title : mg "_law_is_title" = some (.ref f_law_is_title)
  f_law_right : Addr
  d_law_right : FuncData
  F_law_right : Fun K "_law_right" "_law_right" s_law_right f_law_right d_law_right
  b_law_right : Binds K d_law_right ["_law_item"] []
  kw_law_right : ∀ (s : Shared) (ws : List Value), ws.length = 1 → BindsTo s d_law_right ⟨[], (["_law_item"] : List Str).zip ws⟩ ((["_law_item"] : List Str).zip ws)
  m_law_right : mg "_law_right" = some (.ref f_law_right)
  f_law : Addr
  d_law : FuncData
  F_law : Fun K "law" "law" s_law f_law d_law
  b_law : Binds K d_law ["_law_script"] []
  kw_law : ∀ (s : Shared) (ws : List Value), ws.length = 1 → BindsTo s d_law ⟨[], (["_law_script"] : List Str).zip ws⟩ ((["_law_script"] : List Str).zip ws)
  m_law : mg "law" = some (.ref f_law)
  t_LONGEST_WORD : Tok
  c_LONGEST_WORD : mg "LONGEST_WORD" = some (.int 8 t_LONGEST_WORD)
  t_GREATEST_NUMBER : Tok
  c_GREATEST_NUMBER : mg "GREATEST_NUMBER" = some (.int 99999 t_GREATEST_NUMBER)
  t_GREATEST_RANK : Tok
  c_GREATEST_RANK : mg "GREATEST_RANK" = some (.int 100 t_GREATEST_RANK)
  z_bool : mg "bool" = none
  z_int : mg "int" = none
  z_isinstance : mg "isinstance" = none
  z_len : mg "len" = none
  z_max : mg "max" = none
  z_min : mg "min" = none
  z_range : mg "range" = none
  z_repr : mg "repr" = none
  z_str : mg "str" = none
  z_tuple : mg "tuple" = none

end K01

namespace K01
open PySem PySem.Spec PyProof.Rows L2 Br
/-! ### what the looks tell, of plain data -/
def lettersD : PyData → Bool
  | .str z => lettersS z
  | _ => false
def wordD : PyData → Bool
  | .str z => wordS z
  | _ => false
def personD : PyData → Bool
  | .str z => personS z
  | _ => false
def withinD (lo hi : Int) : PyData → Bool
  | .int i => decide (lo ≤ i) && decide (i ≤ hi)
  | _ => false
def nameD : PyData → Bool
  | .tuple [a, b] => wordD a && withinD 0 99999 b
  | _ => false
def okS (z : Str) : Bool := decide (z.length ≤ 1000) && z.cps.toList.all fun c => decide (c < 128)
def asc (z : Str) : Prop := ∀ c ∈ z.cps.toList, c < 128
theorem okS_mk {z : Str} (h : z.length ≤ 1000) (a : asc z) : okS z = true := by
  unfold okS
  rw [decide_eq_true h, Bool.true_and]
  exact List.all_eq_true.mpr fun c hc => decide_eq_true (a c hc)
theorem okS_len {z : Str} (h : okS z = true) : z.length ≤ 1000 := of_decide_eq_true (Bool.and_eq_true_iff.mp h).1
theorem okS_asc {z : Str} (h : okS z = true) : asc z := fun c hc => of_decide_eq_true (List.all_eq_true.mp (Bool.and_eq_true_iff.mp h).2 c hc)
def shortD : PyData → Bool
  | .str z => okS z
  | .tuple _ => false
  | .dict _ => false
  | _ => true
def smallD : PyData → Bool
  | .str z => okS z
  | .tuple ds => ds.all shortD
  | _ => true
def tn : PyData → String
  | .none => "NoneType"
  | .bool _ => "bool"
  | .int _ => "int"
  | .str _ => "str"
  | .list _ => "list"
  | .tuple _ => "tuple"
  | .dict _ => "dict"

/-! ### heaps -/
theorem same_new {H : Hp} {p : Addr} {o : HO} (h : H p = none) : Same H (upd H p o) := fun b x e => (upd_ne (ne_of_none e h)).trans e
theorem same_seqT {K : PySem.W.Frag} {H H' : Hp} {a : Addr} {xs : List V} (e : Same H H') (h : SqT K H a xs) : SqT K H' a xs :=
  h.imp (fun r => r.imp (e _ _) fun ⟨o, q⟩ => ⟨o, e _ _ q⟩) id
mutual
theorem dp_same {K : PySem.W.Frag} {H H' : Hp} (e : Same H H') : ∀ (d : PyData) (v : V), Dp K H v d → Dp K H' v d
  | .none, _, .non => .non
  | .bool _, _, .bl b => .bl b
  | .int _, _, .int i => .int i
  | .str _, _, .str x => .str x
  | .list ds, _, .lst s a => .lst (e.seq s) (dps_same e ds _ a)
  | .tuple ds, _, .tup s a => .tup (same_seqT e s) (dps_same e ds _ a)
theorem dps_same {K : PySem.W.Frag} {H H' : Hp} (e : Same H H') : ∀ (ds : List PyData) (vs : List V), DpAll K H vs ds → DpAll K H' vs ds
  | [], _, .nil => .nil
  | d :: ds, _, .cons x r => .cons (dp_same e d _ x) (dps_same e ds _ r)
end
/-- a thing that may be looked at -/
inductive Th (K : PySem.W.Frag) (H : Hp) : V → PyData → Prop where
  | dp {v : V} {d : PyData} (h : Dp K H v d) (s : smallD d = true) : Th K H v d
  | dict {a : Addr} (h : H a = some (.dK [])) : Th K H (.ref a) (.dict [])
theorem Th.same {K : PySem.W.Frag} {H H' : Hp} {v : V} {d : PyData} (t : Th K H v d) (e : Same H H') : Th K H' v d := by
  cases t with
  | dp h s => exact .dp (dp_same e _ _ h) s
  | dict h => exact .dict (e _ _ h)
theorem Th.ty {K : PySem.W.Frag} {H : Hp} {v : V} {d : PyData} (t : Th K H v d) : TyX K H v (.type (tn d)) := by
  cases t with
  | dict h => exact .base (.dK h)
  | dp h sm =>
    cases h with
    | non => exact .base .non
    | bl b => exact .base (.bl b)
    | int i => exact .base (.int i)
    | str x => exact .base (.str x)
    | lst s _ =>
      rcases s with (s | ⟨o, s⟩) | ⟨o, its, n, s, c, _⟩
      · exact .base (.lst s)
      · exact .base (.frz s)
      · exact .kList s c
    | tup s _ =>
      rcases s with (s | ⟨o, s⟩) | ⟨o, its, n, s, c, _⟩
      · exact .base (.tup s)
      · exact .fTuple s
      · exact .kTuple s c
def isIntD : PyData → Bool
  | .int _ => true
  | .bool _ => true
  | _ => false
def isBoolD : PyData → Bool
  | .bool _ => true
  | _ => false
def isStrD : PyData → Bool
  | .str _ => true
  | _ => false
def isTupD : PyData → Bool
  | .tuple _ => true
  | _ => false
theorem kit_int {K : PySem.W.Frag} (d : PyData) : PySem.W.kitOne K (.type (tn d)) (.type "int") = some (isIntD d) := by
  cases d with
  | none => exact kit_ty (a := "NoneType") (b := "int") (r := false) (by decide +kernel)
  | bool _ => exact kit_ty (a := "bool") (b := "int") (r := true) (by decide +kernel)
  | int _ => exact kit_ty (a := "int") (b := "int") (r := true) (by decide +kernel)
  | str _ => exact kit_ty (a := "str") (b := "int") (r := false) (by decide +kernel)
  | list _ => exact kit_ty (a := "list") (b := "int") (r := false) (by decide +kernel)
  | tuple _ => exact kit_ty (a := "tuple") (b := "int") (r := false) (by decide +kernel)
  | dict _ => exact kit_ty (a := "dict") (b := "int") (r := false) (by decide +kernel)
theorem kit_bool {K : PySem.W.Frag} (d : PyData) : PySem.W.kitOne K (.type (tn d)) (.type "bool") = some (isBoolD d) := by
  cases d with
  | none => exact kit_ty (a := "NoneType") (b := "bool") (r := false) (by decide +kernel)
  | bool _ => exact kit_ty (a := "bool") (b := "bool") (r := true) (by decide +kernel)
  | int _ => exact kit_ty (a := "int") (b := "bool") (r := false) (by decide +kernel)
  | str _ => exact kit_ty (a := "str") (b := "bool") (r := false) (by decide +kernel)
  | list _ => exact kit_ty (a := "list") (b := "bool") (r := false) (by decide +kernel)
  | tuple _ => exact kit_ty (a := "tuple") (b := "bool") (r := false) (by decide +kernel)
  | dict _ => exact kit_ty (a := "dict") (b := "bool") (r := false) (by decide +kernel)
theorem kit_str {K : PySem.W.Frag} (d : PyData) : PySem.W.kitOne K (.type (tn d)) (.type "str") = some (isStrD d) := by
  cases d with
  | none => exact kit_ty (a := "NoneType") (b := "str") (r := false) (by decide +kernel)
  | bool _ => exact kit_ty (a := "bool") (b := "str") (r := false) (by decide +kernel)
  | int _ => exact kit_ty (a := "int") (b := "str") (r := false) (by decide +kernel)
  | str _ => exact kit_ty (a := "str") (b := "str") (r := true) (by decide +kernel)
  | list _ => exact kit_ty (a := "list") (b := "str") (r := false) (by decide +kernel)
  | tuple _ => exact kit_ty (a := "tuple") (b := "str") (r := false) (by decide +kernel)
  | dict _ => exact kit_ty (a := "dict") (b := "str") (r := false) (by decide +kernel)
theorem kit_tup {K : PySem.W.Frag} (d : PyData) : PySem.W.kitOne K (.type (tn d)) (.type "tuple") = some (isTupD d) := by
  cases d with
  | none => exact kit_ty (a := "NoneType") (b := "tuple") (r := false) (by decide +kernel)
  | bool _ => exact kit_ty (a := "bool") (b := "tuple") (r := false) (by decide +kernel)
  | int _ => exact kit_ty (a := "int") (b := "tuple") (r := false) (by decide +kernel)
  | str _ => exact kit_ty (a := "str") (b := "tuple") (r := false) (by decide +kernel)
  | list _ => exact kit_ty (a := "list") (b := "tuple") (r := false) (by decide +kernel)
  | tuple _ => exact kit_ty (a := "tuple") (b := "tuple") (r := true) (by decide +kernel)
  | dict _ => exact kit_ty (a := "dict") (b := "tuple") (r := false) (by decide +kernel)

end K01

namespace K01
open PySem PySem.Spec PyProof.Rows L2 Br
/-! ### promises -/
/-- of a thing, the truth g -/
def spLook (K : PySem.W.Frag) (g : PyData → Bool) : Sp := fun vs H Q _ => ∃ (v : V) (d : PyData), vs = [v] ∧ Th K H v d ∧ ∀ H', Same H H' → Q (.bl (g d)) H'
section
variable {P : Program} {w : World} {K : PySem.W.Frag} {mg : Str → Option Value} {base : Heap}
def wholeD (d : PyData) : Bool := isIntD d && !isBoolD d
theorem ok_is_whole (T : Txt K mg) : FnOk P w K mg base CX0 1 T.f_is_whole T.d_is_whole ["thing"] (spLook K wholeD) := by
  refine T.F_is_whole.ok sc_is_whole (fun vs H Q E h => ?_) (fun cdv A outer s H vs Q E hr h => ?_)
  · obtain ⟨v, d, rfl, _⟩ := h
    rfl
  obtain ⟨v, d, rfl, ht, q⟩ := h
  refine ⟨_, (pss_one (ps_ret (pe_and (pe_callB call_isi (by rfl) T.z_isinstance (by decide +kernel) (pa_cons (pv 0) (pa_cons (pe_bltn (v := .ty "int") (by rfl) T.z_int (by decide +kernel) rfl) pa_nil))) (pe_one (pe_not (pe_callB call_isi (by rfl) T.z_isinstance (by decide +kernel) (pa_cons (pv 0) (pa_cons (pe_bltn (v := .ty "bool") (by rfl) T.z_bool (by decide +kernel) rfl) pa_nil)))))))), ?_⟩
  refine ⟨v, rfl, v, .ty "int", _, _, _, rfl, .ty _, ht.ty, kit_int d, _, rfl, ?_⟩
  have q' := q H (Same.refl H)
  unfold wholeD at q'
  cases e : isIntD d with
  | false =>
    rw [e] at q'
    exact iteF q'
  | true =>
    rw [e] at q'
    exact iteT ⟨v, rfl, v, .ty "bool", _, _, _, rfl, .ty _, ht.ty, kit_bool d, _, rfl, q'⟩

theorem nat1_lt {a b : Nat} : decide ([a] < [b]) = decide (a < b) := by
  by_cases h : a < b
  · rw [decide_eq_true h]
    exact decide_eq_true (List.Lex.rel h)
  · rw [decide_eq_false h]
    refine decide_eq_false fun z => ?_
    cases z with
    | rel q => exact h q
    | cons q => cases q
theorem le_sign (c : Nat) : (!decide ([c] < [97])) = decide (97 ≤ c) := by
  rw [nat1_lt]
  by_cases h : c < 97
  · rw [decide_eq_true h, decide_eq_false (by omega)]; rfl
  · rw [decide_eq_false h, decide_eq_true (by omega)]; rfl
theorem sign_le (c : Nat) : (!decide ([122] < [c])) = decide (c ≤ 122) := by
  rw [nat1_lt]
  by_cases h : 122 < c
  · rw [decide_eq_true h, decide_eq_false (by omega)]; rfl
  · rw [decide_eq_false h, decide_eq_true (by omega)]; rfl
theorem take_map_succ {α β : Type} (f : α → β) {xs : List α} {i : Nat} {x : α} (h : xs[i]? = some x) : (xs.take i).map f ++ [f x] = (xs.take (i + 1)).map f := by
  rw [List.take_add_one, h, List.map_append]
  rfl
theorem small_len {n : Nat} (h : n ≤ 100000) : n < sizeLine := Nat.lt_of_le_of_lt h (by decide)
end
end K01

namespace K01
open PySem PySem.Spec PyProof.Rows L2 Br
section
variable {P : Program} {w : World} {K : PySem.W.Frag} {mg : Str → Option Value} {base : Heap}
theorem Th.strq {H : Hp} {v : V} {d : PyData} (t : Th K H v d) : (∃ z, v = .str z ∧ d = .str z ∧ z.length ≤ 1000 ∧ asc z) ∨ isStrD d = false := by
  cases t with
  | dict h => exact .inr rfl
  | dp h sm =>
    cases h with
    | str z => exact .inl ⟨z, rfl, rfl, okS_len sm, okS_asc sm⟩
    | _ => exact .inr rfl
theorem Th.tupq {H : Hp} {v : V} {d : PyData} (t : Th K H v d) : (∃ a xs ds, v = .ref a ∧ d = .tuple ds ∧ SqT K H a xs ∧ DpAll K H xs ds ∧ ds.all shortD = true) ∨ isTupD d = false := by
  cases t with
  | dict h => exact .inr rfl
  | dp h sm =>
    cases h with
    | tup s a => exact .inl ⟨_, _, _, rfl, rfl, s, a, sm⟩
    | _ => exact .inr rfl
theorem Th.intq {H : Hp} {v : V} {d : PyData} (t : Th K H v d) : (∃ i, v = .int i ∧ d = .int i) ∨ wholeD d = false := by
  cases t with
  | dict h => exact .inr rfl
  | dp h sm =>
    cases h with
    | int i => exact .inl ⟨i, rfl, rfl⟩
    | _ => exact .inr rfl
theorem dps_length {H : Hp} : ∀ {xs : List V} {ds : List PyData}, DpAll K H xs ds → xs.length = ds.length
  | _, _, .nil => rfl
  | _, _, .cons _ r => congrArg (· + 1) (dps_length r)
theorem dp2 {H : Hp} {xs : List V} {ds : List PyData} (h : DpAll K H xs ds) (n : xs.length = 2) : ∃ x0 x1 d0 d1, xs = [x0, x1] ∧ ds = [d0, d1] ∧ Dp K H x0 d0 ∧ Dp K H x1 d1 := by
  match h, n with
  | .cons h0 (.cons h1 .nil), _ => exact ⟨_, _, _, _, rfl, rfl, h0, h1⟩
theorem th_short {H : Hp} {v : V} {d : PyData} (h : Dp K H v d) (s : shortD d = true) : Th K H v d := by
  refine .dp h ?_
  cases h with
  | tup _ _ => cases s
  | _ => exact s
theorem not_str {d : PyData} (h : isStrD d = false) : lettersD d = false ∧ wordD d = false ∧ personD d = false := by
  cases d with
  | str z => cases h
  | _ => exact ⟨rfl, rfl, rfl⟩
theorem ok_is_word (T : Txt K mg) : FnOk P w K mg base CX0 2 T.f_is_word T.d_is_word ["thing"] (spLook K wordD) := by
  refine T.F_is_word.ok sc_is_word (fun vs H Q E h => ?_) (fun cdv A outer s H vs Q E hr h => ?_)
  · obtain ⟨v, d, rfl, _⟩ := h
    rfl
  obtain ⟨v, d, rfl, ht, q⟩ := h
  refine ⟨_, (pss_cons (ps_if (PW.pt (pw_or (pt_not (pt_val (pe_callB call_isi (by rfl) T.z_isinstance (by decide +kernel) (pa_cons (pv 0) (pa_cons (pe_bltn (v := .ty "str") (by rfl) T.z_str (by decide +kernel) rfl) pa_nil))))) (pw_or1 (pt_cmpR op_gt (pe_callB call_len_str (by rfl) T.z_len PySem.boot_len (pa_cons (pv 0) pa_nil)) (pe_glob (v := .int 8) (by rfl) T.c_LONGEST_WORD ⟨_, rfl⟩) (nomark _)))))
      (pss_one (ps_ret pe_bl)) pss_nil)
    (pss_one (ps_ret (pe_and (pe_m0 PySem.F.slot_str_isascii PySem.F.type_str_isascii mt_isascii (pv 0)) (pe_and (pe_m0 PySem.F.slot_str_isalpha PySem.F.type_str_isalpha mt_isalpha (pv 0)) (pe_one (pe_m0 PySem.F.slot_str_islower PySem.F.type_str_islower mt_islower (pv 0)))))))), ?_⟩
  refine ⟨v, rfl, v, .ty "str", _, _, _, rfl, .ty _, ht.ty, kit_str d, _, rfl, ?_⟩
  have q' := q H (Same.refl H)
  rcases ht.strq with ⟨z, rfl, rfl, hz, ha⟩ | hn
  · refine iteF ⟨_, rfl, z, rfl, Nat.le_of_lt (small_len (by omega)), _, _, rfl, rfl, _, rfl, ?_⟩
    refine ite2 (fun c => ?_) (fun c => ?_)
    · have e : wordD (.str z) = false := by
        have := of_decide_eq_true c
        show (lettersS z && decide (z.length ≤ 8)) = false
        rw [decide_eq_false (show ¬ z.length ≤ 8 by omega), Bool.and_false]
      rw [e] at q'
      exact q'
    · have n8 : z.length ≤ 8 := by
        refine Classical.byContradiction fun k => c (decide_eq_true ?_)
        omega
      have e : wordD (.str z) = (Txt.isascii z && (Txt.isalpha z && Txt.islower z)) := by
        show (lettersS z && decide (z.length ≤ 8)) = _
        rw [low3, decide_eq_true n8, Bool.and_true]
      rw [e] at q'
      refine ⟨_, rfl, ⟨z, rfl⟩, z, rfl, rfl, trivial, ?_⟩
      cases c1 : Txt.isascii z with
      | false =>
        rw [c1] at q'
        exact ⟨_, rfl, iteF q'⟩
      | true =>
        rw [c1] at q'
        refine ⟨_, rfl, iteT ⟨_, rfl, ⟨z, rfl⟩, z, rfl, rfl, trivial, ?_⟩⟩
        cases c2 : Txt.isalpha z with
        | false =>
          rw [c2] at q'
          exact ⟨_, rfl, iteF q'⟩
        | true =>
          rw [c2] at q'
          exact ⟨_, rfl, iteT ⟨_, rfl, ⟨z, rfl⟩, z, rfl, rfl, trivial, q'⟩⟩
  · rw [hn]
    rw [(not_str hn).2.1] at q'
    exact q'
theorem ok_is_rank (T : Txt K mg) : FnOk P w K mg base CX0 2 T.f_is_rank T.d_is_rank ["thing"] (spLook K (withinD 0 100)) := by
  have O_is_whole : FnOk P w K mg base CX0 1 _ _ _ _ := ok_is_whole T
  refine T.F_is_rank.ok sc_is_rank (fun vs H Q E h => ?_) (fun cdv A outer s H vs Q E hr h => ?_)
  · obtain ⟨v, d, rfl, _⟩ := h
    rfl
  obtain ⟨v, d, rfl, ht, q⟩ := h
  refine ⟨_, (pss_one (ps_ret (pe_and (pe_call O_is_whole (hr.mono (by decide)) (by rfl) T.m_is_whole T.F_is_whole.kp T.b_is_whole .nil pass0 (pa_cons (pv 0) pa_nil)) (pe_one (pe_chain op_le op_le pe_int (pv 0) (pe_glob (v := .int 100) (by rfl) T.c_GREATEST_RANK ⟨_, rfl⟩)))))), ?_⟩
  refine ⟨v, rfl, v, d, rfl, ht, fun H1 s1 => ⟨_, rfl, ?_⟩⟩
  have q' := q H1 s1
  rcases ht.intq with ⟨i, rfl, rfl⟩ | hn
  · refine ⟨_, rfl, _, _, rfl, rfl, _, rfl, ?_⟩
    have e : withinD 0 100 (.int i) = (decide (0 ≤ i) && decide (i ≤ 100)) := rfl
    rw [e] at q'
    refine ite2 (fun c => ?_) (fun c => ?_)
    · rw [c] at q'
      exact ⟨_, _, rfl, rfl, q'⟩
    · rw [Bool.eq_false_iff.mpr c] at q'
      exact q'
  · have e : withinD 0 100 d = false := by
      cases d with
      | int i => cases hn
      | _ => rfl
    rw [e] at q'
    rw [hn]
    exact q'
theorem ok_is_name (T : Txt K mg) : FnOk P w K mg base CX0 3 T.f_is_name T.d_is_name ["thing"] (spLook K nameD) := by
  have O_is_word : FnOk P w K mg base CX0 2 _ _ _ _ := ok_is_word T
  refine T.F_is_name.ok sc_is_name (fun vs H Q E h => ?_) (fun cdv A outer s H vs Q E hr h => ?_)
  · obtain ⟨v, d, rfl, _⟩ := h
    rfl
  obtain ⟨v, d, rfl, ht, q⟩ := h
  refine ⟨_, (pss_cons (ps_if (PW.pt (pw_or (pt_not (pt_val (pe_callB call_isi (by rfl) T.z_isinstance (by decide +kernel) (pa_cons (pv 0) (pa_cons (pe_bltn (v := .ty "tuple") (by rfl) T.z_tuple (by decide +kernel) rfl) pa_nil))))) (pw_or1 (pt_cmpR op_ne (pe_callB call_len_seq (by rfl) T.z_len PySem.boot_len (pa_cons (pv 0) pa_nil)) pe_int (nomark _)))))
      (pss_one (ps_ret pe_bl)) pss_nil)
    (pss_cons (ps_asg (pv 0) (pg_tup rfl (pgs_cons (pg_name (i := 1) sc_is_name.nd rfl (.inl rfl)) (pgs_cons (pg_name (i := 2) sc_is_name.nd rfl (.inl rfl)) pgs_nil))))
    (pss_cons (ps_if (PW.pt (pw_or (pt_not (pt_val (pe_callB call_isi (by rfl) T.z_isinstance (by decide +kernel) (pa_cons (pv 2) (pa_cons (pe_bltn (v := .ty "int") (by rfl) T.z_int (by decide +kernel) rfl) pa_nil))))) (pw_or (pt_val (pe_callB call_isi (by rfl) T.z_isinstance (by decide +kernel) (pa_cons (pv 2) (pa_cons (pe_bltn (v := .ty "bool") (by rfl) T.z_bool (by decide +kernel) rfl) pa_nil)))) (pw_or1 (pt_not (pt_chain op_le op_le pe_int (pv 2) (pe_glob (v := .int 99999) (by rfl) T.c_GREATEST_NUMBER ⟨_, rfl⟩)))))))
      (pss_one (ps_ret pe_bl)) pss_nil)
    (pss_one (ps_ret (pe_call O_is_word (hr.mono (by decide)) (by rfl) T.m_is_word T.F_is_word.kp T.b_is_word .nil pass0 (pa_cons (pv 1) pa_nil))))))), ?_⟩
  refine ⟨v, rfl, v, .ty "tuple", _, _, _, rfl, .ty _, ht.ty, kit_tup d, _, rfl, ?_⟩
  rcases ht.tupq with ⟨a, xs, ds, rfl, rfl, hs, ha, sm⟩ | hn
  · refine iteF ⟨_, rfl, a, xs, rfl, .inr hs, rfl, _, rfl, ?_⟩
    have hl := dps_length ha
    refine ite2 (fun c => ?_) (fun c => ?_)
    · have n2 : ds.length ≠ 2 := fun e => by
        rw [hl, e] at c
        exact absurd c (by decide)
      have e : nameD (.tuple ds) = false := by
        match ds, n2 with
        | [], _ => rfl
        | [_], _ => rfl
        | [_, _], n => exact absurd rfl n
        | _ :: _ :: _ :: _, _ => rfl
      have q' := q H (Same.refl H)
      rw [e] at q'
      exact q'
    · have n2 : xs.length = 2 := by
        by_cases e : V.int (xs.length : Nat) = V.int 2
        · have := V.int.inj e
          omega
        · exact absurd (by rw [decide_eq_false e]; rfl) c
      obtain ⟨x0, x1, d0, d1, rfl, rfl, h0, h1⟩ := dp2 ha n2
      have sm0 : shortD d0 = true ∧ shortD d1 = true := by
        simp only [List.all_cons, Bool.and_eq_true] at sm
        exact ⟨sm.1, sm.2.1⟩
      have t0 : Th K H x0 d0 := th_short h0 sm0.1
      have t1 : Th K H x1 d1 := th_short h1 sm0.2
      have en : nameD (.tuple [d0, d1]) = (wordD d0 && withinD 0 99999 d1) := rfl
      rw [en] at q
      refine ⟨_, rfl, a, _, rfl, hs, rfl, _, _, rfl, _, _, rfl, rfl, ?_⟩
      have qf := q H (Same.refl H)
      refine ⟨_, rfl, _, .ty "int", _, _, _, rfl, .ty _, t1.ty, kit_int d1, _, rfl, ?_⟩
      rcases t1.intq with ⟨i, rfl, rfl⟩ | hn
      · refine iteF ⟨_, rfl, _, .ty "bool", _, _, _, rfl, .ty _, t1.ty, kit_bool _, _, rfl, ?_⟩
        refine iteF ⟨_, rfl, _, _, rfl, rfl, _, rfl, ?_⟩
        have e : withinD 0 99999 (.int i) = (decide (0 ≤ i) && decide (i ≤ 99999)) := rfl
        rw [e] at q qf
        refine ite2 (fun c1 => ?_) (fun c1 => ?_)
        · refine ⟨_, _, rfl, rfl, _, rfl, ?_⟩
          rw [c1] at q qf
          cases c2 : decide (i ≤ 99999) with
          | false =>
            rw [c2, Bool.and_false, Bool.and_false] at qf
            exact qf
          | true =>
            rw [c2] at q
            refine iteF ⟨_, rfl, x0, d0, rfl, t0, fun H1 s1 => ?_⟩
            have q' := q H1 s1
            rw [Bool.and_true, Bool.and_true] at q'
            exact q'
        · rw [Bool.eq_false_iff.mpr c1, Bool.false_and, Bool.and_false] at qf
          exact ⟨_, rfl, qf⟩
      · have e : withinD 0 99999 d1 = false := by
          cases d1 with
          | int i => cases hn
          | _ => rfl
        rw [e, Bool.and_false] at qf
        cases c1 : isIntD d1 with
        | false => exact iteT qf
        | true =>
          have eb : isBoolD d1 = true := by
            cases d1 with
            | int i => cases hn
            | bool b => rfl
            | _ => cases c1
          refine iteF ⟨_, rfl, _, .ty "bool", _, _, _, rfl, .ty _, t1.ty, kit_bool _, _, rfl, ?_⟩
          rw [eb]
          exact iteT qf
  · rw [hn]
    have e : nameD d = false := by
      cases d with
      | tuple _ => cases hn
      | _ => rfl
    have q' := q H (Same.refl H)
    rw [e] at q'
    exact q'
theorem sub_asc {x : Str} {i j : Nat} (h : asc x) : asc (Builtin.Str.strSub x i j) := fun c hc => by
  unfold Builtin.Str.strSub at hc
  rw [Array.toList_extract] at hc
  exact h c (List.mem_of_mem_drop (List.mem_of_mem_take hc))
theorem part_asc {x y a : Str} (h : a ∈ Txt.split x y) (k : asc x) : asc a := by
  unfold Txt.split at h
  split at h
  · rw [List.mem_singleton.mp h]; exact k
  · split at h
    · rw [List.mem_singleton.mp h]; exact k
    · unfold Builtin.Str.partsBetween at h
      obtain ⟨⟨i, j⟩, _, rfl⟩ := List.mem_map.mp h
      exact sub_asc k
theorem part_shortA (z : Str) (hz : z.length ≤ 1000) (ha : asc z) : (Txt.partition z at1).1.length ≤ 1000 ∧ (Txt.partition z at1).2.2.length ≤ 1000 ∧ asc (Txt.partition z at1).1 ∧ asc (Txt.partition z at1).2.2 := by
  rw [at1_eq]
  obtain ⟨h1, h2, h3, h4⟩ := part_parts z 64
  exact ⟨Nat.le_trans h1 hz, Nat.le_trans h2 hz, fun c hc => ha c (h3 c hc), fun c hc => ha c (h4 c hc)⟩
theorem at1_len : ((at1.length == 0) = false) := by decide
theorem strs_get {ys : List Str} {i : Nat} {y : Str} (h : ys[i]? = some y) : (ys.map V.str)[i]? = some (.str y) := by rw [List.getElem?_map, h]; rfl
theorem ok_is_person (T : Txt K mg) : FnOk P w K mg base CX0 3 T.f_is_person T.d_is_person ["thing"] (spLook K personD) := by
  have O_is_word : FnOk P w K mg base CX0 2 _ _ _ _ := ok_is_word T
  refine T.F_is_person.ok sc_is_person (fun vs H Q E h => ?_) (fun cdv A outer s H vs Q E hr h => ?_)
  · obtain ⟨v, d, rfl, _⟩ := h
    rfl
  obtain ⟨v, d, rfl, ht, q⟩ := h
  refine ⟨_, (pss_cons (ps_if (pt_not (pt_val (pe_callB call_isi (by rfl) T.z_isinstance (by decide +kernel) (pa_cons (pv 0) (pa_cons (pe_bltn (v := .ty "str") (by rfl) T.z_str (by decide +kernel) rfl) pa_nil)))))
      (pss_one (ps_ret pe_bl)) pss_nil)
    (pss_cons (ps_asg (pe_partition (pv 0) pe_str) (pg_tup rfl (pgs_cons (pg_name (i := 1) sc_is_person.nd rfl (.inl rfl)) (pgs_cons (pg_name (i := 2) sc_is_person.nd rfl (.inl rfl)) (pgs_cons (pg_name (i := 3) sc_is_person.nd rfl (.inl rfl)) pgs_nil)))))
    (pss_one (ps_ret (pe_and (pe_call O_is_word (hr.mono (by decide)) (by rfl) T.m_is_word T.F_is_word.kp T.b_is_word .nil pass0 (pa_cons (pv 1) pa_nil)) (pe_one (pe_call O_is_word (hr.mono (by decide)) (by rfl) T.m_is_word T.F_is_word.kp T.b_is_word .nil pass0 (pa_cons (pv 3) pa_nil)))))))), ?_⟩
  refine ⟨v, rfl, v, .ty "str", _, _, _, rfl, .ty _, ht.ty, kit_str d, _, rfl, ?_⟩
  rcases ht.strq with ⟨z, rfl, rfl, hz, ha⟩ | hn
  · refine iteF ?_
    refine ⟨_, rfl, ⟨_, rfl⟩, z, at1, rfl, rfl, at1_len, Nat.le_of_lt (small_len (by omega)), fun p np => ?_⟩
    obtain ⟨g1, g2, a1, a2⟩ := part_shortA z hz ha
    have es : personD (.str z) = (wordS (Txt.partition z at1).1 && wordS (Txt.partition z at1).2.2) := person_part z
    rw [es] at q
    generalize (Txt.partition z at1).1 = x at *
    generalize (Txt.partition z at1).2.2 = y at *
    generalize (Txt.partition z at1).2.1 = c at *
    have s1 : Same H (upd H p (.tup [.str x, .str c, .str y])) := same_new np
    refine ⟨p, _, rfl, SqT.of upd_same, rfl, _, _, rfl, _, _, rfl, _, _, rfl, rfl, ?_⟩
    refine ⟨_, rfl, .str x, .str x, rfl, .dp (.str x) (okS_mk g1 a1), fun H1 s2 => ⟨_, rfl, ?_⟩⟩
    refine ite2 (fun c2 => ?_) (fun c2 => ?_)
    · refine ⟨_, rfl, .str y, .str y, rfl, .dp (.str y) (okS_mk g2 a2), fun H2 s3 => ?_⟩
      have q' := q H2 (s1.trans (s2.trans s3))
      rw [show wordS x = true from c2] at q'
      exact q'
    · have q' := q H1 (s1.trans s2)
      rw [show wordS x = false from Bool.eq_false_iff.mpr c2] at q'
      exact q'
  · rw [hn]
    have q' := q H (Same.refl H)
    rw [(not_str hn).2.2] at q'
    exact q'
def spHouse (K : PySem.W.Frag) : Sp := fun vs H Q _ => ∃ (z a b : Str), vs = [.str z] ∧ z.length ≤ 1000 ∧ Txt.split z at1 = [a, b] ∧ ∀ H', Same H H' → Q (.str b) H'
theorem ok_house_of (T : Txt K mg) : FnOk P w K mg base CX0 1 T.f_house_of T.d_house_of ["person"] (spHouse K) := by
  refine T.F_house_of.ok sc_house_of (fun vs H Q E h => ?_) (fun cdv A outer s H vs Q E hr h => ?_)
  · obtain ⟨z, a, b, rfl, _⟩ := h
    rfl
  obtain ⟨z, a, b, rfl, hz, hs, q⟩ := h
  refine ⟨_, (pss_one (ps_ret (pe_ix (ix_listK K) (pe_split (pv 0) pe_str) pe_int (fun _ _ => rfl)))), ?_⟩
  refine ⟨_, rfl, ⟨_, rfl⟩, z, at1, rfl, rfl, at1_len, Nat.le_of_lt (small_len (by omega)), fun p np => ?_⟩
  have e1 : (upd H p (.lst ((Txt.split z at1).map V.str))) p = some (.lst [.str a, .str b]) := by rw [upd_same, hs]; rfl
  exact ⟨p, _, 1, .str b, rfl, rfl, SqL.of e1, rfl, q _ (same_new np)⟩
end
end K01

namespace K01
open PySem PySem.Spec PyProof.Rows L2 Br
/-- a pool of draws stands at p -/
def Pool (H : Hp) (p : Addr) : Prop := ∃ x y : Int, H p = some (.lst [.int x, .int y]) ∧ 0 ≤ x ∧ 0 ≤ y ∧ y < 2147483647
/-- all but p is as it was -/
def But (p : Addr) (H H' : Hp) : Prop := ∀ b o, b ≠ p → H b = some o → H' b = some o
theorem But.refl (p : Addr) (H : Hp) : But p H H := fun _ _ _ e => e
theorem But.trans {p : Addr} {H H1 H2 : Hp} (a : But p H H1) (b : But p H1 H2) : But p H H2 := fun c o n e => b c o n (a c o n e)
theorem But.of {p : Addr} {H H' : Hp} (e : Same H H') : But p H H' := fun b o _ q => e b o q
theorem But.upd {p : Addr} {H : Hp} {o : HO} : But p H (upd H p o) := fun b u n e => (upd_ne n).trans e
theorem But.new {p q : Addr} {H : Hp} {o : HO} (h : H q = none) : But p H (L2.upd H q o) := .of (same_new h)
theorem Pool.same {H H' : Hp} {p : Addr} (h : Pool H p) (e : Same H H') : Pool H' p := by
  obtain ⟨x, y, a, r⟩ := h
  exact ⟨x, y, e _ _ a, r⟩
theorem Pool.ne {H : Hp} {p q : Addr} (h : Pool H p) (n : H q = none) : q ≠ p := by
  obtain ⟨x, y, a, _⟩ := h
  exact (ne_of_none a n).symm
def spPool (K : PySem.W.Frag) : Sp := fun vs H Q _ => ∃ (a : Addr) (ns : List Int) (k : Int), vs = [.ref a, .int k] ∧ SqL K H a (ns.map V.int) ∧ 0 ≤ k ∧ k ≤ 1000 ∧
  ∀ H' p, Same H H' → H p = none → Pool H' p → Q (.ref p) H'
def spTake (K : PySem.W.Frag) : Sp := fun vs H Q _ => ∃ (p : Addr) (m : Int), vs = [.ref p, .int m] ∧ Pool H p ∧ 1 ≤ m ∧ m ≤ 1000000000 ∧
  ∀ H' r, But p H H' → Pool H' p → 0 ≤ r → r < m → Q (.int r) H'
def spLetters (K : PySem.W.Frag) : Sp := fun vs H Q _ => ∃ (p : Addr) (n : Int), vs = [.ref p, .int n] ∧ Pool H p ∧ 0 ≤ n ∧ n ≤ 100 ∧
  ∀ H' z, But p H H' → Pool H' p → (z.length : Int) ≤ n → asc z → Q (.str z) H'
def spSigns (K : PySem.W.Frag) : Sp := fun vs H Q _ => ∃ (p : Addr), vs = [.ref p] ∧ Pool H p ∧
  ∀ H' z, But p H H' → Pool H' p → z.length ≤ 30 → asc z → Q (.str z) H'
section
variable {P : Program} {w : World} {K : PySem.W.Frag} {mg : Str → Option Value} {base : Heap}
theorem bit_ok (b : Bool) : -(2 ^ 64) < (if b = true then (1 : Int) else 0) ∧ (if b = true then (1 : Int) else 0) < 2 ^ 64 := by cases b <;> decide
theorem bit_nn (b : Bool) : 0 ≤ (if b = true then (1 : Int) else 0) := by cases b <;> decide
theorem size_ok (c : Int) : 0 ≤ (if -1 - c > c then -1 - c else c) := by split <;> omega
theorem two_le {a b : V} : [a, b].length ≤ sizeLine := show 2 ≤ sizeLine by decide
theorem ok_law_pool (T : Txt K mg) : FnOk P w K mg base CX0 1 T.f_law_pool T.d_law_pool ["_law_script", "_law_k"] (spPool K) := by
  refine T.F_law_pool.ok sc_law_pool (fun vs H Q E h => ?_) (fun cdv A outer s H vs Q E hr h => ?_)
  · obtain ⟨a, ns, k, rfl, _⟩ := h
    rfl
  obtain ⟨a, ns, k, rfl, hS, k0, k1, q⟩ := h
  refine ⟨_, (pss_cons (ps_set (i := 2) sc_law_pool.nd rfl (.inl rfl) pe_int)
    (pss_cons (ps_if (pt_cmpR op_lt (pv 1) (pe_callB call_len_seq (by rfl) T.z_len PySem.boot_len (pa_cons (pv 0) pa_nil)) (nomark _))
      (pss_one (ps_set (i := 2) sc_law_pool.nd rfl (.inl rfl) (pe_ix (ix_listK K) (pv 0) (pv 1) (fun _ _ => rfl)))) pss_nil)
    (pss_cons (ps_set (i := 3) sc_law_pool.nd rfl (.inl rfl) (pe_callB (call_max2 rfl) (by rfl) T.z_max (by decide +kernel) (pa_cons (pv 2) (pa_cons (pe_op op_sub (pe_un un_neg pe_int) (pv 2)) pa_nil))))
    (pss_cons (ps_set (i := 4) sc_law_pool.nd rfl (.inl rfl) (pe_op op_mod (pe_op op_mul (pe_op op_add (pe_op op_add (pe_op op_add (pe_op op_mod (pv 3) pe_int) (pe_op op_mul (pe_op op_mul pe_int (pv 1)) (pv 1))) (pe_op op_mul pe_int (pv 1))) pe_int) pe_int) pe_int))
    (pss_one (ps_ret (pe_lst (pa_cons (pe_op op_mul (pv 3) (pe_callTy call_int1 (by rfl) T.z_int (by decide +kernel) (pa_cons (pe_cmpR op_ge (pv 3) (pe_op op_pow pe_int pe_int) (nomark _)) pa_nil))) (pa_cons (pv 4) pa_nil))))))))), ?_⟩
  refine ⟨_, rfl, _, rfl, a, _, rfl, .inl hS, _, _, rfl, rfl, _, rfl, ?_⟩
  have kk : 0 ≤ 7919 * k ∧ 7919 * k ≤ 7919000 := by omega
  refine ite2 (fun c => ?a) (fun c => ?b)
  case' a =>
    have kl : k.toNat < ns.length := by
      have := of_decide_eq_true c
      rw [List.length_map] at this
      omega
    have ha : atI (ns.map V.int) ((k.toNat : Nat) : Int) = some (.int ns[k.toNat]) := atI_nat (by rw [List.getElem?_map, List.getElem?_eq_getElem kl]; rfl)
    rw [Int.toNat_of_nonneg k0] at ha
    refine ⟨_, rfl, _, rfl, a, _, k, _, rfl, rfl, hS, ha, ?_⟩
  all_goals
    refine ⟨_, rfl, 1, rfl, _, rfl, _, _, rfl, rfl, _, _, rfl, ?_⟩
    refine ⟨_, rfl, _, _, rfl, rfl, (show (0 : Int) < 2147483629 by decide), _, rfl, _, _, rfl, rfl, .inl (by decide), _, rfl, _, _, rfl, rfl, .inl (by omega), _, _, rfl, rfl, _, rfl, _, _, rfl, rfl, .inl (by decide), _, _, rfl, rfl, _, _, rfl, rfl, _, _, rfl, rfl, .inr (by decide), _, _, rfl, rfl, (show (0 : Int) < 2147483647 by decide), ?_⟩
    refine ⟨_, rfl, _, rfl, _, _, rfl, rfl, ⟨by decide, by decide, by decide⟩, _, _, rfl, rfl, .inr ⟨_, rfl, _, _, rfl, rfl, .inr (bit_ok _), _, rfl, two_le, fun p np => ?_⟩⟩
    exact q _ p (same_new np) np ⟨_, _, upd_same, Int.mul_nonneg (size_ok _) (bit_nn _), Int.emod_nonneg _ (by decide), Int.emod_lt_of_pos _ (by decide)⟩
theorem ok_law_take (T : Txt K mg) : FnOk P w K mg base CX0 1 T.f_law_take T.d_law_take ["_law_pool_here", "_law_many"] (spTake K) := by
  refine T.F_law_take.ok sc_law_take (fun vs H Q E h => ?_) (fun cdv A outer s H vs Q E hr h => ?_)
  · obtain ⟨p, m, rfl, _⟩ := h
    rfl
  obtain ⟨p, m, rfl, ⟨x, y, hp, x0, y0, y1⟩, m0, m1, q⟩ := h
  refine ⟨_, (pss_cons (ps_if (pt_cmpR op_gt (pe_ix (ix_listK K) (pv 0) pe_int (fun _ _ => rfl)) pe_int (nomark _))
      (pss_cons (ps_set (i := 2) sc_law_take.nd rfl (.inl rfl) (pe_op op_mod (pe_ix (ix_listK K) (pv 0) pe_int (fun _ _ => rfl)) (pv 1)))
    (pss_cons (ps_asg (pe_op op_fdiv (pe_ix (ix_listK K) (pv 0) pe_int (fun _ _ => rfl)) (pv 1)) (pg_sub (pv 0) pe_int set_list))
    (pss_one (ps_ret (pv 2))))) pss_nil)
    (pss_cons (ps_asg (pe_op op_mod (pe_op op_add (pe_op op_mul (pe_ix (ix_listK K) (pv 0) pe_int (fun _ _ => rfl)) pe_int) pe_int) pe_int) (pg_sub (pv 0) pe_int set_list))
    (pss_one (ps_ret (pe_op op_mod (pe_op op_fdiv (pe_op op_mod (pe_op op_mul (pe_ix (ix_listK K) (pv 0) pe_int (fun _ _ => rfl)) (pe_ix (ix_listK K) (pv 0) pe_int (fun _ _ => rfl))) pe_int) pe_int) (pv 1)))))), ?_⟩
  refine ⟨_, rfl, p, _, 0, _, rfl, rfl, SqL.of hp, rfl, _, _, rfl, rfl, _, rfl, ?_⟩
  refine ite2 (fun c => ?_) (fun c => ?_)
  · refine ⟨_, rfl, p, _, 0, _, rfl, rfl, SqL.of hp, rfl, _, rfl, _, _, rfl, rfl, (show 0 < m by omega), ?_⟩
    refine ⟨_, rfl, p, _, 0, _, rfl, rfl, SqL.of hp, rfl, _, rfl, _, _, rfl, rfl, ⟨(show 0 < m by omega), (show m < 1073741824 by omega)⟩, _, rfl, p, _, 0, 0, rfl, rfl, hp, rfl, ?_⟩
    refine ⟨_, rfl, ?_⟩
    exact q _ _ But.upd ⟨_, _, upd_same, Int.ediv_nonneg x0 (by omega), y0, y1⟩ (Int.emod_nonneg _ (by omega)) (Int.emod_lt_of_pos _ (by omega))
  · refine ⟨_, rfl, p, _, 1, _, rfl, rfl, SqL.of hp, rfl, _, _, rfl, rfl, .inl (by omega), _, _, rfl, rfl, _, _, rfl, rfl, (show (0 : Int) < 2147483647 by decide), _, rfl, p, _, 1, 1, rfl, rfl, hp, rfl, ?_⟩
    have n0 : 0 ≤ (y * 69621 + 7) % 2147483647 := Int.emod_nonneg _ (by decide)
    have n1 : (y * 69621 + 7) % 2147483647 < 2147483647 := Int.emod_lt_of_pos _ (by decide)
    refine ⟨_, rfl, p, _, 1, _, rfl, rfl, SqL.of upd_same, rfl, _, rfl, p, _, 1, _, rfl, rfl, SqL.of upd_same, rfl, _, _, rfl, rfl, .inl ⟨Int.lt_of_lt_of_le (by decide) n0, Int.lt_trans n1 (by decide)⟩, _, _, rfl, rfl, (show (0 : Int) < 2147483629 by decide), _, _, rfl, rfl, ⟨(show (0 : Int) < 32 by decide), (show (32 : Int) < 1073741824 by decide)⟩, _, rfl, _, _, rfl, rfl, (show 0 < m by omega), ?_⟩
    exact q _ _ But.upd ⟨_, _, upd_same, x0, n0, n1⟩ (Int.emod_nonneg _ (by omega)) (Int.emod_lt_of_pos _ (by omega))
theorem abc_at {r : Int} (h0 : 0 ≤ r) (h1 : r < 26) : ∃ c, atI ("abcdefghijklmnopqrstuvwxyz" : Str).cps.toList r = some c ∧ c < 128 := by
  have hl : ("abcdefghijklmnopqrstuvwxyz" : Str).cps.toList.length = 26 := by decide +kernel
  have e : ((r.toNat : Nat) : Int) = r := Int.toNat_of_nonneg h0
  refine ⟨("abcdefghijklmnopqrstuvwxyz" : Str).cps.toList[r.toNat]'(by omega), ?_⟩
  have q : atI ("abcdefghijklmnopqrstuvwxyz" : Str).cps.toList ((r.toNat : Nat) : Int) = some _ := atI_nat (List.getElem?_eq_getElem (by omega))
  rw [e] at q
  have all : ∀ c ∈ ("abcdefghijklmnopqrstuvwxyz" : Str).cps.toList, c < 128 := by decide +kernel
  exact ⟨q, all _ (List.getElem_mem _)⟩
theorem asc_app {x y : Str} (a : asc x) (b : asc y) : asc (x ++ y) := fun c hc => by
  have e : (x ++ y).cps.toList = x.cps.toList ++ y.cps.toList := Array.toList_append
  rw [e] at hc
  exact (List.mem_append.mp hc).elim (a c) (b c)
theorem asc_nil : asc "" := fun c hc => nomatch hc
theorem asc_join : ∀ {ys : List Str}, (∀ y ∈ ys, asc y) → asc (Str.join "" ys)
  | [], _ => asc_nil
  | [y], h => h y List.mem_cons_self
  | x :: y :: r, h => asc_app (asc_app (h x List.mem_cons_self) asc_nil) (asc_join fun z hz => h z (List.mem_cons_of_mem _ hz))
theorem asc_cut {z : Str} {lo hi : Option Int} (h : asc z) : asc (cutS z lo hi) := fun c hc => by
  unfold cutS at hc
  exact h c (List.mem_of_mem_drop (List.mem_of_mem_take hc))
theorem sum_ones : ∀ {ys : List Str}, (∀ y ∈ ys, y.length = 1) → (ys.map (·.length)).sum = ys.length
  | [], _ => rfl
  | y :: ys, h => by
    rw [List.map_cons, List.sum_cons, sum_ones fun z hz => h z (List.mem_cons_of_mem _ hz), h y List.mem_cons_self, List.length_cons]
    omega
theorem join_short {ys : List Str} (h : ∀ y ∈ ys, y.length = 1) : (Txt.join "" ys).length ≤ ys.length := by
  have a := StrLaws.join_length_le "" ys
  rw [sum_ones h] at a
  have e : Txt.join "" ys = Str.join "" ys := StrLaws.glued_eq_join ..
  rw [e]
  have z : ("" : Str).length = 0 := rfl
  rw [z] at a
  omega
theorem ok_law_letters (T : Txt K mg) : FnOk P w K mg base CX0 2 T.f_law_letters T.d_law_letters ["_law_pool_here", "_law_many"] (spLetters K) := by
  have O_law_take : FnOk P w K mg base CX0 1 _ _ _ _ := ok_law_take T
  refine T.F_law_letters.ok sc_law_letters (fun vs H Q E h => ?_) (fun cdv A outer s H vs Q E hr h => ?_)
  · obtain ⟨p, n, rfl, _⟩ := h
    rfl
  obtain ⟨p, n, rfl, hp, n0, n1, q⟩ := h
  refine ⟨_, (pss_cons (ps_set (i := 2) sc_law_letters.nd rfl (.inr rfl) pe_str)
    (pss_one (ps_ret (pe_join pe_str (pe_lc (own := [("_law_turn", 3)]) (g := gName 3) (tt := tYes) rfl sc_law_letters.nd (pi_range1 (by rfl) T.z_range (pa_cons (pv 1) pa_nil)) (blkOk_by (own := [("_law_turn", 3)]) (N := ["_law_pool_here", "_law_many", "_law_letters_here", "_law_turn"]) (sc := defScope s_law_letters) (by decide +kernel)) (fun _ _ _ _ _ => pg_name (i := 3) sc_law_letters.nd rfl (Or.inl rfl)) (fun _ _ _ _ _ => pts_nil) (fun _ _ _ _ _ => (pe_ix ix_str (pv 2) (pe_call O_law_take (hr.mono (by decide)) (by rfl) T.m_law_take T.F_law_take.kp T.b_law_take .nil pass0 (pa_cons (pv 0) (pa_cons pe_int pa_nil))) (fun _ _ => rfl)))))))), ?_⟩
  refine ⟨⟨_, rfl⟩, _, rfl, n, rfl, by omega, by omega, fun D nD => ?_⟩
  have nDp : D ≠ p := hp.ne nD
  refine lc_it walk_range (fun i H' => But p H H' ∧ Pool H' p ∧ ∃ ys : List Str, H' D = some (.lst (ys.map V.str)) ∧ ys.length = i ∧ (∀ y ∈ ys, y.length = 1) ∧ ∀ y ∈ ys, asc y)
    ⟨.new nD, hp.same (same_new nD), [], upd_same, rfl, (fun _ z => nomatch z), (fun _ z => nomatch z)⟩ (fun _ _ _ _ => trivial) (fun i x H1 H2 hi hP hy => ?_) (fun H1 hP => ?_)
  · obtain ⟨rfl, rfl⟩ := hy
    obtain ⟨b1, p1, ys, hD, hl, h1, h2⟩ := hP
    refine ⟨rfl, ?_⟩
    refine ⟨_, rfl, _, rfl, p, 26, rfl, p1, by decide, by decide, fun H3 r b3 p3 r0 r1 => ?_⟩
    obtain ⟨c, hc, hc8⟩ := abc_at r0 r1
    refine ⟨_, r, c, rfl, rfl, (show 26 ≤ sizeLine by decide), hc, _, b3 D _ nDp hD, ?_, ?_⟩
    · rw [List.length_map]
      exact small_len (by omega)
    · refine ⟨fun a o na e => ?_, ?_, ys ++ [⟨#[c]⟩], ?_, ?_, ?_, ?_⟩
      · rw [upd_ne (ne_of_none e nD)]
        exact (b1.trans b3) a o na e
      · obtain ⟨x, y, e, r⟩ := p3
        exact ⟨x, y, by rw [upd_ne nDp.symm]; exact e, r⟩
      · rw [upd_same, List.map_append]; rfl
      · rw [List.length_append, hl]; rfl
      · intro y hy
        rcases List.mem_append.mp hy with z | z
        · exact h1 y z
        · rw [List.mem_singleton.mp z]; rfl
      · intro y hy
        rcases List.mem_append.mp hy with z | z
        · exact h2 y z
        · rw [List.mem_singleton.mp z]
          intro d hd
          rw [List.mem_singleton.mp hd]
          exact hc8
  · obtain ⟨b1, p1, ys, hD, hl, h1, h2⟩ := hP
    have hs := sum_ones h1
    refine ⟨"", D, ys, rfl, rfl, .inl (SqL.of hD), ?_, q H1 _ b1 p1 ?_ ?_⟩
    · rw [hs]
      show ys.length + ys.length * 0 ≤ 16777216
      omega
    · have := join_short h1
      omega
    · have e : Txt.join "" ys = Str.join "" ys := StrLaws.glued_eq_join ..
      rw [e]
      exact asc_join h2
theorem pick10 {r : Int} (h0 : 0 ≤ r) (h1 : r < 10) (s0 s1 s2 s3 s4 s5 s6 s7 s8 s9 : Str) : ∃ z, atI [V.str s0, .str s1, .str s2, .str s3, .str s4, .str s5, .str s6, .str s7, .str s8, .str s9] r = some (.str z) ∧ z ∈ [s0, s1, s2, s3, s4, s5, s6, s7, s8, s9] := by
  have : r = 0 ∨ r = 1 ∨ r = 2 ∨ r = 3 ∨ r = 4 ∨ r = 5 ∨ r = 6 ∨ r = 7 ∨ r = 8 ∨ r = 9 := by omega
  rcases this with rfl | rfl | rfl | rfl | rfl | rfl | rfl | rfl | rfl | rfl <;> exact ⟨_, rfl, by simp⟩
theorem ok_law_signs (T : Txt K mg) : FnOk P w K mg base CX0 3 T.f_law_signs T.d_law_signs ["_law_pool_here"] (spSigns K) := by
  have O_law_take : FnOk P w K mg base CX0 1 _ _ _ _ := ok_law_take T
  have O_law_letters : FnOk P w K mg base CX0 2 _ _ _ _ := ok_law_letters T
  refine T.F_law_signs.ok sc_law_signs (fun vs H Q E h => ?_) (fun cdv A outer s H vs Q E hr h => ?_)
  · obtain ⟨p, rfl, _⟩ := h
    rfl
  obtain ⟨p, rfl, hp, q⟩ := h
  refine ⟨_, (pss_cons (ps_set (i := 1) sc_law_signs.nd rfl (.inl rfl) (pe_call O_law_letters (hr.mono (by decide)) (by rfl) T.m_law_letters T.F_law_letters.kp T.b_law_letters .nil pass0 (pa_cons (pv 0) (pa_cons (pe_call O_law_take (hr.mono (by decide)) (by rfl) T.m_law_take T.F_law_take.kp T.b_law_take .nil pass0 (pa_cons (pv 0) (pa_cons pe_int pa_nil))) pa_nil))))
    (pss_cons (ps_set (i := 2) sc_law_signs.nd rfl (.inl rfl) (pe_ix (ix_listK K) (pe_lst (pa_cons pe_str (pa_cons pe_str (pa_cons pe_str (pa_cons pe_str (pa_cons pe_str (pa_cons pe_str (pa_cons pe_str (pa_cons pe_str (pa_cons pe_str (pa_cons pe_str pa_nil))))))))))) (pe_call O_law_take (hr.mono (by decide)) (by rfl) T.m_law_take T.F_law_take.kp T.b_law_take .nil pass0 (pa_cons (pv 0) (pa_cons pe_int pa_nil))) (fun _ _ => rfl)))
    (pss_cons (ps_if (pt_cmpR op_eq (pe_call O_law_take (hr.mono (by decide)) (by rfl) T.m_law_take T.F_law_take.kp T.b_law_take .nil pass0 (pa_cons (pv 0) (pa_cons pe_int pa_nil))) pe_int (nomark _))
      (pss_cons (ps_set (i := 3) sc_law_signs.nd rfl (.inl rfl) (pe_call O_law_take (hr.mono (by decide)) (by rfl) T.m_law_take T.F_law_take.kp T.b_law_take .nil pass0 (pa_cons (pv 0) (pa_cons (pe_op op_add (pe_callB call_len_str (by rfl) T.z_len PySem.boot_len (pa_cons (pv 1) pa_nil)) pe_int) pa_nil))))
    (pss_one (ps_ret (pe_op op_add_str (pe_op op_add_str (pe_slice sl_str (pv 1) po_none (po_some (pv 3))) (pv 2)) (pe_slice sl_str (pv 1) (po_some (pv 3)) po_none))))) pss_nil)
    (pss_one (ps_ret (pv 1)))))), ?_⟩
  -- found
  refine ⟨_, rfl, _, rfl, p, 10, rfl, hp, by decide, by decide, fun H1 r1 b1 p1 r10 r11 => ?_⟩
  refine ⟨p, r1, rfl, p1, r10, by omega, fun H2 z b2 p2 hz ha => ?_⟩
  -- sign
  refine ⟨(show 10 ≤ sizeLine by decide), fun D nD => ?_⟩
  refine ⟨_, rfl, p, 10, rfl, p2.same (same_new nD), by decide, by decide, fun H3 r3 b3 p3 r30 r31 => ?_⟩
  obtain ⟨sg, hsg, msg⟩ := pick10 r30 r31 "A" "0" " " "-" "_" "\n" "@" ":" "{" "`"
  have lsg : sg.length = 1 := by
    simp only [List.mem_cons, List.not_mem_nil, or_false] at msg
    rcases msg with rfl | rfl | rfl | rfl | rfl | rfl | rfl | rfl | rfl | rfl <;> rfl
  have asg : asc sg := by
    simp only [List.mem_cons, List.not_mem_nil, or_false] at msg
    rcases msg with rfl | rfl | rfl | rfl | rfl | rfl | rfl | rfl | rfl | rfl <;> (unfold asc; decide +kernel)
  have B3 : But p H H3 := ((b1.trans b2).trans (.new nD)).trans b3
  refine ⟨D, _, r3, _, rfl, rfl, SqL.of (b3 D _ (p2.ne nD) upd_same), hsg, ?_⟩
  -- the test
  refine ⟨_, rfl, p, 3, rfl, p3, by decide, by decide, fun H4 r4 b4 p4 r40 r41 => ⟨rfl, _, rfl, ?_⟩⟩
  refine ite2 (fun c => ?_) (fun c => ?_)
  · refine ⟨_, rfl, _, rfl, z, rfl, Nat.le_of_lt (small_len (by omega)), _, _, rfl, rfl, p, _, rfl, p4, by omega, by omega, fun H5 r5 b5 p5 r50 r51 => ?_⟩
    have l1 := cutS_length z none (some r5)
    have l2 := cutS_length z (some r5) none
    have l3 : (cutS z none (some r5) ++ sg).length = (cutS z none (some r5)).length + sg.length := Str.length_append ..
    have l4 : (cutS z none (some r5) ++ sg ++ cutS z (some r5) none).length = (cutS z none (some r5) ++ sg).length + (cutS z (some r5) none).length := Str.length_append ..
    refine ⟨_, rfl, _, rfl, r5, rfl, z, rfl, Nat.le_of_lt (small_len (by omega)), _, rfl, _, _, rfl, rfl, Nat.le_of_lt (small_len (by omega)), ?_⟩
    refine ⟨_, rfl, _, rfl, r5, rfl, z, rfl, Nat.le_of_lt (small_len (by omega)), _, _, rfl, rfl, Nat.le_of_lt (small_len (by omega)), ?_⟩
    exact q H5 _ ((B3.trans b4).trans b5) p5 (by omega) (asc_app (asc_app (asc_cut ha) asg) (asc_cut ha))
  · exact ⟨_, rfl, q H4 z (B3.trans b4) p4 (by omega) ha⟩
end
end K01

namespace K01
open PySem PySem.Spec PyProof.Rows L2 Br
section
variable {P : Program} {w : World} {K : PySem.W.Frag} {mg : Str → Option Value} {base : Heap}
/-- of three things: whether the first is a number between the others -/
def spWithin (K : PySem.W.Frag) : Sp := fun vs H Q _ => ∃ (v : V) (d : PyData) (lo hi : Int), vs = [v, .int lo, .int hi] ∧ Th K H v d ∧ ∀ H', Same H H' → Q (.bl (withinD lo hi d)) H'
theorem ok_law_within (T : Txt K mg) : FnOk P w K mg base CX0 1 T.f_law_within T.d_law_within ["_law_item", "_law_least", "_law_most"] (spWithin K) := by
  refine T.F_law_within.ok sc_law_within (fun vs H Q E h => ?_) (fun cdv A outer s H vs Q E hr h => ?_)
  · obtain ⟨v, d, lo, hi, rfl, _⟩ := h
    rfl
  obtain ⟨v, d, lo, hi, rfl, ht, q⟩ := h
  refine ⟨_, (pss_one (ps_ret (pe_and (pe_callB call_isi (by rfl) T.z_isinstance (by decide +kernel) (pa_cons (pv 0) (pa_cons (pe_bltn (v := .ty "int") (by rfl) T.z_int (by decide +kernel) rfl) pa_nil))) (pe_and (pe_not (pe_callB call_isi (by rfl) T.z_isinstance (by decide +kernel) (pa_cons (pv 0) (pa_cons (pe_bltn (v := .ty "bool") (by rfl) T.z_bool (by decide +kernel) rfl) pa_nil)))) (pe_one (pe_chain op_le op_le (pv 1) (pv 0) (pv 2))))))), ?_⟩
  have q' := q H (Same.refl H)
  refine ⟨v, rfl, v, .ty "int", _, _, _, rfl, .ty _, ht.ty, kit_int d, _, rfl, ?_⟩
  rcases ht.intq with ⟨i, rfl, rfl⟩ | hn
  · refine ⟨_, rfl, _, .ty "bool", _, _, _, rfl, .ty _, ht.ty, kit_bool _, _, rfl, _, rfl, ?_⟩
    refine ⟨_, rfl, _, rfl, _, _, rfl, rfl, _, rfl, ?_⟩
    have e : withinD lo hi (.int i) = (decide (lo ≤ i) && decide (i ≤ hi)) := rfl
    rw [e] at q'
    refine ite2 (fun c2 => ?_) (fun c2 => ?_)
    · rw [c2] at q'
      exact ⟨_, rfl, _, _, rfl, rfl, q'⟩
    · rw [Bool.eq_false_iff.mpr c2] at q'
      exact q'
  · have e : withinD lo hi d = false := by
      cases d with
      | int i => cases hn
      | _ => rfl
    rw [e] at q'
    refine ite2 (fun c => ?_) (fun c => ?_)
    · refine ⟨_, rfl, _, .ty "bool", _, _, _, rfl, .ty _, ht.ty, kit_bool _, _, rfl, _, rfl, ?_⟩
      have eb : isBoolD d = true := by
        cases d with
        | int i => cases hn
        | bool b => rfl
        | _ => cases c
      rw [eb]
      exact q'
    · exact q'
theorem abc_mem (c : Nat) : (!decide (c ∈ ("abcdefghijklmnopqrstuvwxyz" : Str).cps.toList)) = !letC c := by
  have e : ("abcdefghijklmnopqrstuvwxyz" : Str).cps.toList = List.range' 97 26 := by decide +kernel
  rw [e]
  congr 1
  unfold letC
  rw [← Bool.decide_and]
  refine decide_eq_decide.mpr ?_
  rw [List.mem_range'_1]
  omega
theorem dps_strs {H : Hp} : ∀ ys : List Str, DpAll K H (ys.map V.str) (ys.map PyData.str)
  | [] => .nil
  | y :: ys => .cons (.str y) (dps_strs ys)
theorem asc_ok {y : Str} (h : asc y) : PyData.strOk y = true := by
  unfold PyData.strOk
  rw [← Array.all_toList]
  exact List.all_eq_true.mpr fun c hc => decide_eq_true (Nat.lt_trans (h c hc) (by decide))
theorem lay_strs : ∀ {ys : List Str}, (∀ y ∈ ys, asc y) → PyData.canLayAll0 (ys.map PyData.str) = true
  | [], _ => rfl
  | y :: ys, h => by
    show (PyData.strOk y && PyData.canLayAll0 (ys.map PyData.str)) = true
    rw [asc_ok (h y List.mem_cons_self), lay_strs fun z hz => h z (List.mem_cons_of_mem _ hz)]
    rfl
theorem deep_strs : ∀ ys : List Str, PyData.depthAll (ys.map PyData.str) = 0
  | [] => rfl
  | y :: ys => by
    show max 0 (PyData.depthAll (ys.map PyData.str)) = 0
    rw [deep_strs ys]
    rfl
theorem shaped_strs {ys : List Str} (h : ∀ y ∈ ys, asc y) : SeqAt.shaped (.list (ys.map PyData.str)) = true := by
  show (PyData.canLayAll0 (ys.map PyData.str) && decide (PyData.depthAll (ys.map PyData.str) + 1 ≤ 64)) = true
  rw [lay_strs h, deep_strs]
  rfl
theorem eqv_nil (ds : List PyData) : PyData.eqv (.list ds) (.list []) = ds.isEmpty := by
  cases ds with
  | nil => rfl
  | cons d ds => rfl
theorem none_left (xs : List Nat) : (xs.filter fun c => !letC c).isEmpty = xs.all letC := by
  induction xs with
  | nil => rfl
  | cons x xs ih =>
    rw [List.filter_cons, List.all_cons, ← ih]
    cases letC x <;> rfl
theorem ok_law_is_word (T : Txt K mg) : FnOk P w K mg base CX0 1 T.f_law_is_word T.d_law_is_word ["_law_item"] (spLook K wordD) := by
  refine T.F_law_is_word.ok sc_law_is_word (fun vs H Q E h => ?_) (fun cdv A outer s H vs Q E hr h => ?_)
  · obtain ⟨v, d, rfl, _⟩ := h
    rfl
  obtain ⟨v, d, rfl, ht, q⟩ := h
  refine ⟨_, (pss_cons (ps_if (PW.pt (pw_or (pt_not (pt_val (pe_callB call_isi (by rfl) T.z_isinstance (by decide +kernel) (pa_cons (pv 0) (pa_cons (pe_bltn (v := .ty "str") (by rfl) T.z_str (by decide +kernel) rfl) pa_nil))))) (pw_or1 (pt_not (pt_chain op_le op_le pe_int (pe_callB call_len_str (by rfl) T.z_len PySem.boot_len (pa_cons (pv 0) pa_nil)) pe_int)))))
      (pss_one (ps_ret pe_bl)) pss_nil)
    (pss_one (ps_ret (pe_cmpR (op_eqDK K hr.units) (pe_lc (own := [("_law_sign", 1)]) (g := gName 1) rfl sc_law_is_word.nd (pi_str (pv 0)) (blkOk_by (own := [("_law_sign", 1)]) (N := ["_law_item", "_law_sign"]) (sc := defScope s_law_is_word) (by decide +kernel)) (fun _ _ _ _ _ => pg_name (i := 1) sc_law_is_word.nd rfl (Or.inl rfl)) (fun _ _ _ _ _ => pts_one (pt_cmpR op_notIn_sign (pv 1) pe_str (by rfl))) (fun _ _ _ _ _ => (pv 1))) (pe_lst pa_nil) (nomark _))))), ?_⟩
  refine ⟨v, rfl, v, .ty "str", _, _, _, rfl, .ty _, ht.ty, kit_str d, _, rfl, ?_⟩
  rcases ht.strq with ⟨z, rfl, rfl, hz, ha⟩ | hn
  · have zl : z.length ≤ sizeLine := Nat.le_of_lt (small_len (by omega))
    refine iteF ?_
    refine ⟨_, rfl, z, rfl, zl, _, _, rfl, rfl, _, rfl, ?_⟩
    refine ite2 (fun c1 => ?_) (fun c1 => ?_)
    · refine ⟨_, _, rfl, rfl, _, rfl, ?_⟩
      refine ite2 (fun c2 => ?_) (fun c2 => ?_)
      · have e : wordD (.str z) = false := by
          have n8 : ¬ z.length ≤ 8 := fun k => by
            have k' : (z.length : Int) ≤ 8 := by omega
            rw [decide_eq_true k'] at c2
            cases c2
          show (lettersS z && decide (z.length ≤ 8)) = false
          rw [decide_eq_false n8, Bool.and_false]
        have q' := q H (Same.refl H)
        rw [e] at q'
        exact q'
      · have n1 : 1 ≤ z.length := by
          have := of_decide_eq_true c1
          omega
        have n8 : z.length ≤ 8 := by
          by_cases k : (z.length : Int) ≤ 8
          · omega
          · rw [decide_eq_false k] at c2
            exact absurd rfl c2
        refine ⟨_, rfl, z, rfl, fun D nD => ?_⟩
        refine lc_it walk_str (fun i H' => Same H H' ∧ H' D = some (.lst (((z.cps.toList.take i).filter fun c => !letC c).map fun c => V.str ⟨#[c]⟩))) ⟨same_new nD, upd_same⟩ (fun _ _ _ _ => trivial) (fun i x H1 H2 hi hp hy => ?_) (fun H1 hp => ?_)
        · obtain ⟨rfl, c, hc, rfl⟩ := hy
          obtain ⟨sm1, hD⟩ := hp
          have hc' : z.cps.toList[i]? = some c := by rw [← hc]; exact Array.getElem?_toList ..
          have et : z.cps.toList.take (i + 1) = z.cps.toList.take i ++ [c] := by rw [List.take_add_one, hc']; rfl
          refine ⟨rfl, ?_⟩
          refine ⟨_, rfl, c, _, rfl, rfl, _, rfl, ?_⟩
          rw [abc_mem]
          refine ite2 (fun k => ?_) (fun k => ?_)
          · refine ⟨_, rfl, _, hD, ?_, fun a o e => ?_, ?_⟩
            · rw [List.length_map]
              refine small_len (Nat.le_trans (List.length_filter_le _ _) ?_)
              rw [List.length_take, Array.length_toList]
              have : z.cps.size = z.length := rfl
              omega
            · rw [upd_ne (ne_of_none e nD)]
              exact sm1 a o e
            · rw [upd_same, et, List.filter_append, List.map_append]
              simp only [List.filter_cons, List.filter_nil, k, if_true]
              rfl
          · refine ⟨sm1, ?_⟩
            rw [hD, et, List.filter_append]
            simp only [List.filter_cons, List.filter_nil, k, Bool.false_eq_true, if_false, List.append_nil]
        · obtain ⟨sm1, hD⟩ := hp
          have e : z.cps.toList.take z.cps.size = z.cps.toList := by rw [← Array.length_toList, List.take_length]
          rw [e] at hD
          refine ⟨(show 0 ≤ sizeLine by decide), fun D2 nD2 => ?_⟩
          have s2 : Same H1 (upd H1 D2 (.lst [])) := same_new nD2
          have hs : ((z.cps.toList.filter fun c => !letC c).map fun c => (⟨#[c]⟩ : Str)).map V.str = (z.cps.toList.filter fun c => !letC c).map fun c => V.str ⟨#[c]⟩ := by rw [List.map_map]; rfl
          refine ⟨_, .list [], .lst (SqL.of (s2 _ _ hD)) (by rw [← hs]; exact dps_strs _), .lst (SqL.of upd_same) .nil, shaped_strs fun y hy => ?_, rfl, ?_⟩
          · obtain ⟨c, hc, rfl⟩ := List.mem_map.mp hy
            intro d hd
            rw [List.mem_singleton.mp hd]
            exact ha c (List.mem_filter.mp hc).1
          · have q' := q _ (sm1.trans s2)
            have e2 : wordD (.str z) = PyData.eqv (.list (((z.cps.toList.filter fun c => !letC c).map fun c => (⟨#[c]⟩ : Str)).map PyData.str)) (.list []) := by
              rw [eqv_nil]
              show (!decide (z.length = 0) && z.cps.toList.all letC && decide (z.length ≤ 8)) = _
              rw [decide_eq_false (show ¬ z.length = 0 by omega), decide_eq_true n8, Bool.and_true, List.isEmpty_map, List.isEmpty_map, none_left]
              rfl
            rw [e2] at q'
            exact q'
    · have e : wordD (.str z) = false := by
        have n0 : z.length = 0 := by
          refine Classical.byContradiction fun k => c1 (decide_eq_true ?_)
          omega
        show (!decide (z.length = 0) && z.cps.toList.all letC && decide (z.length ≤ 8)) = false
        rw [decide_eq_true n0]
        rfl
      have q' := q H (Same.refl H)
      rw [e] at q'
      exact ⟨_, rfl, q'⟩
  · rw [hn]
    have q' := q H (Same.refl H)
    rw [(not_str hn).2.1] at q'
    exact q'
theorem kind_pos (x : Str) : 1 ≤ Builtin.Str.strKind x := by
  unfold Builtin.Str.strKind
  split
  · decide
  · split <;> decide
theorem count_split (z : Str) : ((Txt.split z at1).length : Int) = Txt.count z at1 + 1 := by
  unfold Txt.split Txt.count
  split
  · rename_i h
    rcases Bool.or_eq_true_iff.mp h with h | h
    · have h1 := of_decide_eq_true h
      have e : at1.length = 1 := rfl
      have z0 : z = ("" : Str) := by
        cases z with | mk a => exact congrArg Str.mk (Array.eq_empty_of_size_eq_zero (by rw [e] at h1; have : (⟨a⟩ : Str).length = a.size := rfl; omega))
      subst z0
      decide +kernel
    · have h1 := of_decide_eq_true h
      have e : Builtin.Str.strKind at1 = 1 := by decide +kernel
      have := kind_pos z
      omega
  · split
    · rename_i h
      have : Builtin.Str.occurrences z at1 0 z.length (z.length + 1) = [] := List.isEmpty_iff.mp h
      rw [this]
      rfl
    · rw [length_partsBetween]
      rfl
theorem none_left2 (xs : List Str) : (xs.filter fun y => !wordS y).isEmpty = xs.all wordS := by
  induction xs with
  | nil => rfl
  | cons x xs ih =>
    rw [List.filter_cons, List.all_cons, ← ih]
    cases wordS x <;> rfl
theorem ok_law_is_person (T : Txt K mg) : FnOk P w K mg base CX0 2 T.f_law_is_person T.d_law_is_person ["_law_item"] (spLook K personD) := by
  have O_law_is_word : FnOk P w K mg base CX0 1 _ _ _ _ := ok_law_is_word T
  refine T.F_law_is_person.ok sc_law_is_person (fun vs H Q E h => ?_) (fun cdv A outer s H vs Q E hr h => ?_)
  · obtain ⟨v, d, rfl, _⟩ := h
    rfl
  obtain ⟨v, d, rfl, ht, q⟩ := h
  refine ⟨_, (pss_cons (ps_if (PW.pt (pw_or (pt_not (pt_val (pe_callB call_isi (by rfl) T.z_isinstance (by decide +kernel) (pa_cons (pv 0) (pa_cons (pe_bltn (v := .ty "str") (by rfl) T.z_str (by decide +kernel) rfl) pa_nil))))) (pw_or1 (pt_cmpR op_ne (pe_m1 PySem.F.slot_str_count PySem.F.type_str_count mt_count (pv 0) pe_str) pe_int (nomark _)))))
      (pss_one (ps_ret pe_bl)) pss_nil)
    (pss_one (ps_ret (pe_cmpR (op_eqDK K hr.units) (pe_lc (own := [("_law_part", 1)]) (g := gName 1) rfl sc_law_is_person.nd (pi_list (pe_split (pv 0) pe_str)) (blkOk_by (own := [("_law_part", 1)]) (N := ["_law_item", "_law_part"]) (sc := defScope s_law_is_person) (by decide +kernel)) (fun _ _ _ _ _ => pg_name (i := 1) sc_law_is_person.nd rfl (Or.inl rfl)) (fun _ _ _ _ _ => pts_one (pt_not (pt_val (pe_call O_law_is_word (hr.mono (by decide)) (by rfl) T.m_law_is_word T.F_law_is_word.kp T.b_law_is_word .nil pass0 (pa_cons (pv 1) pa_nil))))) (fun _ _ _ _ _ => (pv 1))) (pe_lst pa_nil) (nomark _))))), ?_⟩
  refine ⟨v, rfl, v, .ty "str", _, _, _, rfl, .ty _, ht.ty, kit_str d, _, rfl, ?_⟩
  rcases ht.strq with ⟨z, rfl, rfl, hz, ha⟩ | hn
  · refine iteF ?_
    refine ⟨_, rfl, ⟨_, rfl⟩, z, at1, rfl, rfl, rfl, _, rfl, ?_⟩
    have es : personD (.str z) = (match Txt.split z at1 with | [a, b] => wordS a && wordS b | _ => false) := rfl
    rw [es] at q
    have cs := count_split z
    refine ite2 (fun c => ?_) (fun c => ?_)
    · have n2 : (Txt.split z at1).length ≠ 2 := fun e => by
        have e1 : Txt.count z at1 = 1 := by omega
        rw [e1] at c
        exact absurd c (by decide)
      have q' := q H (Same.refl H)
      generalize Txt.split z at1 = ys at *
      match ys, n2, q' with
      | [], _, q' => exact q'
      | [_], _, q' => exact q'
      | [_, _], n, _ => exact absurd rfl n
      | _ :: _ :: _ :: _, _, q' => exact q'
    · have n2 : (Txt.split z at1).length = 2 := by
        by_cases e : V.int (Txt.count z at1) = V.int 1
        · have := V.int.inj e
          omega
        · exact absurd (by rw [decide_eq_false e]; rfl) c
      refine ⟨_, rfl, ⟨_, rfl⟩, z, at1, rfl, rfl, at1_len, Nat.le_of_lt (small_len (by omega)), fun p np => ?_⟩
      have s1 : Same H (upd H p (.lst ((Txt.split z at1).map V.str))) := same_new np
      have hL : SqL K (upd H p (.lst ((Txt.split z at1).map V.str))) p ((Txt.split z at1).map V.str) := SqL.of upd_same
      have short : ∀ y ∈ Txt.split z at1, okS y = true := fun y hy => okS_mk (Nat.le_trans (PyProof.Rows.part_short hy) hz) (part_asc hy ha)
      refine ⟨p, rfl, ⟨_, hL⟩, fun D nD => ?_⟩
      generalize Txt.split z at1 = ys at *
      generalize upd H p (.lst (ys.map V.str)) = H0 at *
      refine lc_it (walk_list (xs := ys.map V.str)) (fun i H' => Same H0 H' ∧ H' D = some (.lst (((ys.take i).filter fun y => !wordS y).map V.str))) ⟨same_new nD, upd_same⟩ (fun _ _ _ hp => hp.1.seq hL) (fun i x H1 H2 hi hp hy => ?_) (fun H1 hp => ?_)
      · obtain ⟨rfl, hx⟩ := hy
        obtain ⟨sm1, hD⟩ := hp
        rw [List.getElem?_map] at hx
        obtain ⟨y, hy, rfl⟩ := Option.map_eq_some_iff.mp hx
        have et : ys.take (i + 1) = ys.take i ++ [y] := by rw [List.take_add_one, hy]; rfl
        refine ⟨rfl, ?_⟩
        refine ⟨_, rfl, .str y, .str y, rfl, .dp (.str y) (short y (List.mem_of_getElem? hy)), fun H3 s3 => ⟨_, rfl, ?_⟩⟩
        refine ite2 (fun k => ?_) (fun k => ?_)
        · refine ⟨_, rfl, _, s3 _ _ hD, ?_, fun a o e => ?_, ?_⟩
          · rw [List.length_map]
            refine small_len (Nat.le_trans (List.length_filter_le _ _) ?_)
            rw [List.length_take]
            omega
          · rw [upd_ne (ne_of_none e nD)]
            exact s3 a o (sm1 a o e)
          · rw [upd_same, et, List.filter_append, List.map_append]
            simp only [List.filter_cons, List.filter_nil, show (!wordS y) = true from k, if_true]
            rfl
        · refine ⟨sm1.trans s3, ?_⟩
          rw [s3 _ _ hD, et, List.filter_append]
          simp only [List.filter_cons, List.filter_nil, show (!wordS y) = false from Bool.eq_false_iff.mpr k, Bool.false_eq_true, if_false, List.append_nil]
      · obtain ⟨sm1, hD⟩ := hp
        rw [List.length_map, List.take_length] at hD
        refine ⟨(show 0 ≤ sizeLine by decide), fun D2 nD2 => ?_⟩
        have s2 : Same H1 (upd H1 D2 (.lst [])) := same_new nD2
        refine ⟨_, .list [], .lst (SqL.of (s2 _ _ hD)) (dps_strs _), .lst (SqL.of upd_same) .nil, shaped_strs fun y hy => ?_, rfl, ?_⟩
        · exact okS_asc (short y (List.mem_filter.mp hy).1)
        · have q' := q _ ((s1.trans sm1).trans s2)
          rw [eqv_nil, List.isEmpty_map, none_left2]
          match ys, n2, q' with
          | [a, b], _, q' =>
            have e : ([a, b] : List Str).all wordS = (wordS a && wordS b) := by rw [List.all_cons, List.all_cons, List.all_nil, Bool.and_true]
            rw [e]
            exact q'
  · rw [hn]
    have q' := q H (Same.refl H)
    rw [(not_str hn).2.2] at q'
    exact q'
theorem ok_law_is_title (T : Txt K mg) : FnOk P w K mg base CX0 2 T.f_law_is_title T.d_law_is_title ["_law_item"] (spLook K nameD) := by
  have O_law_is_word : FnOk P w K mg base CX0 1 _ _ _ _ := ok_law_is_word T
  have O_law_within : FnOk P w K mg base CX0 1 _ _ _ _ := ok_law_within T
  refine T.F_law_is_title.ok sc_law_is_title (fun vs H Q E h => ?_) (fun cdv A outer s H vs Q E hr h => ?_)
  · obtain ⟨v, d, rfl, _⟩ := h
    rfl
  obtain ⟨v, d, rfl, ht, q⟩ := h
  refine ⟨_, (pss_cons (ps_if (PW.pt (pw_or (pt_not (pt_val (pe_callB call_isi (by rfl) T.z_isinstance (by decide +kernel) (pa_cons (pv 0) (pa_cons (pe_bltn (v := .ty "tuple") (by rfl) T.z_tuple (by decide +kernel) rfl) pa_nil))))) (pw_or1 (pt_cmpR op_ne (pe_callB call_len_seq (by rfl) T.z_len PySem.boot_len (pa_cons (pv 0) pa_nil)) pe_int (nomark _)))))
      (pss_one (ps_ret pe_bl)) pss_nil)
    (pss_one (ps_ret (pe_and (pe_call O_law_is_word (hr.mono (by decide)) (by rfl) T.m_law_is_word T.F_law_is_word.kp T.b_law_is_word .nil pass0 (pa_cons (pe_ix (ix_tupK K) (pv 0) pe_int (fun _ _ => rfl)) pa_nil)) (pe_one (pe_call O_law_within (hr.mono (by decide)) (by rfl) T.m_law_within T.F_law_within.kp T.b_law_within .nil pass0 (pa_cons (pe_ix (ix_tupK K) (pv 0) pe_int (fun _ _ => rfl)) (pa_cons pe_int (pa_cons pe_int pa_nil))))))))), ?_⟩
  refine ⟨v, rfl, v, .ty "tuple", _, _, _, rfl, .ty _, ht.ty, kit_tup d, _, rfl, ?_⟩
  rcases ht.tupq with ⟨a, xs, ds, rfl, rfl, hs, ha, sm⟩ | hn
  · refine iteF ⟨_, rfl, a, xs, rfl, .inr hs, rfl, _, rfl, ?_⟩
    have hl := dps_length ha
    refine ite2 (fun c => ?_) (fun c => ?_)
    · have n2 : ds.length ≠ 2 := fun e => by
        rw [hl, e] at c
        exact absurd c (by decide)
      have e : nameD (.tuple ds) = false := by
        match ds, n2 with
        | [], _ => rfl
        | [_], _ => rfl
        | [_, _], n => exact absurd rfl n
        | _ :: _ :: _ :: _, _ => rfl
      have q' := q H (Same.refl H)
      rw [e] at q'
      exact q'
    · have n2 : xs.length = 2 := by
        by_cases e : V.int (xs.length : Nat) = V.int 2
        · have := V.int.inj e
          omega
        · exact absurd (by rw [decide_eq_false e]; rfl) c
      obtain ⟨x0, x1, d0, d1, rfl, rfl, h0, h1⟩ := dp2 ha n2
      have sm0 : shortD d0 = true ∧ shortD d1 = true := by
        simp only [List.all_cons, Bool.and_eq_true] at sm
        exact ⟨sm.1, sm.2.1⟩
      have t0 : Th K H x0 d0 := th_short h0 sm0.1
      have t1 : Th K H x1 d1 := th_short h1 sm0.2
      have en : nameD (.tuple [d0, d1]) = (wordD d0 && withinD 0 99999 d1) := rfl
      rw [en] at q
      refine ⟨_, rfl, a, _, 0, x0, rfl, rfl, hs, rfl, x0, d0, rfl, t0, fun H1 s1 => ⟨_, rfl, ?_⟩⟩
      refine ite2 (fun c => ?_) (fun c => ?_)
      · rw [c] at q
        refine ⟨_, rfl, a, _, 1, x1, rfl, rfl, same_seqT s1 hs, rfl, x1, d1, 0, 99999, rfl, t1.same s1, fun H2 s2 => ?_⟩
        exact q H2 (s1.trans s2)
      · rw [Bool.eq_false_iff.mpr c] at q
        exact q H1 s1
  · rw [hn]
    have e : nameD d = false := by
      cases d with
      | tuple _ => cases hn
      | _ => rfl
    have q' := q H (Same.refl H)
    rw [e] at q'
    exact q'
end
end K01

namespace K01
open PySem PySem.Spec PyProof.Rows L2 Br
/-- True of every thing -/
def spRight (K : PySem.W.Frag) : Sp := fun vs H Q _ => ∃ (v : V) (d : PyData), vs = [v] ∧ Th K H v d ∧ ∀ H', Same H H' → Q (.bl true) H'
def four (b1 b2 b3 b4 : Bool) : PyData := .list [.bool b1, .bool b2, .bool b3, .bool b4]
theorem four_len (b1 b2 b3 b4 : Bool) : (four b1 b2 b3 b4).shown.length ≤ sizeLine := by
  cases b1 <;> cases b2 <;> cases b3 <;> cases b4 <;> decide +kernel
theorem four_dp {K : PySem.W.Frag} {H : Hp} {a : Addr} {b1 b2 b3 b4 : Bool} (h : H a = some (.lst [.bl b1, .bl b2, .bl b3, .bl b4])) : Dp K H (.ref a) (four b1 b2 b3 b4) :=
  .lst (SqL.of h) (.cons (.bl _) (.cons (.bl _) (.cons (.bl _) (.cons (.bl _) .nil))))
theorem four_le {a b c d : V} : [a, b, c, d].length ≤ sizeLine := show 4 ≤ sizeLine by decide
section
variable {P : Program} {w : World} {K : PySem.W.Frag} {mg : Str → Option Value} {base : Heap}
theorem ok_law_right (T : Txt K mg) : FnG P w K mg base CX0 4 T.f_law_right T.d_law_right ["_law_item"] (spRight K) := by
  have O_law_is_word : FnOk P w K mg base CX0 1 _ _ _ _ := ok_law_is_word T
  have O_law_is_person : FnOk P w K mg base CX0 2 _ _ _ _ := ok_law_is_person T
  have O_law_is_title : FnOk P w K mg base CX0 2 _ _ _ _ := ok_law_is_title T
  have O_law_within : FnOk P w K mg base CX0 1 _ _ _ _ := ok_law_within T
  have O_is_word : FnOk P w K mg base CX0 2 _ _ _ _ := ok_is_word T
  have O_is_person : FnOk P w K mg base CX0 3 _ _ _ _ := ok_is_person T
  have O_is_name : FnOk P w K mg base CX0 3 _ _ _ _ := ok_is_name T
  have O_is_rank : FnOk P w K mg base CX0 2 _ _ _ _ := ok_is_rank T
  refine okG T.F_law_right sc_law_right (fun vs H Q E h => ?_) (fun cdv A outer s H vs Q E hG hr h => ?_)
  · obtain ⟨v, d, rfl, _⟩ := h
    rfl
  obtain ⟨v, d, rfl, ht, q⟩ := h
  refine ⟨_, (pss_cons (ps_set (i := 1) sc_law_right.nd rfl (.inl rfl) (pe_lst (pa_cons (pe_call O_law_is_word (hr.mono (by decide)) (by rfl) T.m_law_is_word T.F_law_is_word.kp T.b_law_is_word .nil pass0 (pa_cons (pv 0) pa_nil)) (pa_cons (pe_call O_law_is_person (hr.mono (by decide)) (by rfl) T.m_law_is_person T.F_law_is_person.kp T.b_law_is_person .nil pass0 (pa_cons (pv 0) pa_nil)) (pa_cons (pe_call O_law_is_title (hr.mono (by decide)) (by rfl) T.m_law_is_title T.F_law_is_title.kp T.b_law_is_title .nil pass0 (pa_cons (pv 0) pa_nil)) (pa_cons (pe_call O_law_within (hr.mono (by decide)) (by rfl) T.m_law_within T.F_law_within.kp T.b_law_within .nil pass0 (pa_cons (pv 0) (pa_cons pe_int (pa_cons pe_int pa_nil)))) pa_nil))))))
    (pss_cons (ps_if (pt_cmpR op_ne (pe_callB (call_reprD hr.units hG) (by rfl) T.z_repr (by decide +kernel) (pa_cons (pe_lst (pa_cons (pe_call O_is_word (hr.mono (by decide)) (by rfl) T.m_is_word T.F_is_word.kp T.b_is_word .nil pass0 (pa_cons (pv 0) pa_nil)) (pa_cons (pe_call O_is_person (hr.mono (by decide)) (by rfl) T.m_is_person T.F_is_person.kp T.b_is_person .nil pass0 (pa_cons (pv 0) pa_nil)) (pa_cons (pe_call O_is_name (hr.mono (by decide)) (by rfl) T.m_is_name T.F_is_name.kp T.b_is_name .nil pass0 (pa_cons (pv 0) pa_nil)) (pa_cons (pe_call O_is_rank (hr.mono (by decide)) (by rfl) T.m_is_rank T.F_is_rank.kp T.b_is_rank .nil pass0 (pa_cons (pv 0) pa_nil)) pa_nil))))) pa_nil)) (pe_callB (call_reprD hr.units hG) (by rfl) T.z_repr (by decide +kernel) (pa_cons (pv 1) pa_nil)) (nomark _))
      (pss_one (ps_ret pe_bl)) pss_nil)
    (pss_one (ps_ret (pe_cmpR op_eq (pe_callB (call_reprD hr.units hG) (by rfl) T.z_repr (by decide +kernel) (pa_cons (pe_lst (pa_cons (pe_callK0 O_is_word (hr.mono (by decide)) (by rfl) T.m_is_word T.F_is_word.kp T.kw_is_word pass0 (pk_cons (pv 0) pk_nil)) (pa_cons (pe_callK0 O_is_person (hr.mono (by decide)) (by rfl) T.m_is_person T.F_is_person.kp T.kw_is_person pass0 (pk_cons (pv 0) pk_nil)) (pa_cons (pe_callK0 O_is_name (hr.mono (by decide)) (by rfl) T.m_is_name T.F_is_name.kp T.kw_is_name pass0 (pk_cons (pv 0) pk_nil)) (pa_cons (pe_callK0 O_is_rank (hr.mono (by decide)) (by rfl) T.m_is_rank T.F_is_rank.kp T.kw_is_rank pass0 (pk_cons (pv 0) pk_nil)) pa_nil))))) pa_nil)) (pe_callB (call_reprD hr.units hG) (by rfl) T.z_repr (by decide +kernel) (pa_cons (pv 1) pa_nil)) (nomark _)))))), ?_⟩
  -- due
  refine ⟨v, rfl, v, d, rfl, ht, fun H1 s1 => ⟨v, rfl, v, d, rfl, ht.same s1, fun H2 s2 => ⟨v, rfl, v, d, rfl, (ht.same s1).same s2, fun H3 s3 => ⟨v, rfl, v, d, 0, 100, rfl, ((ht.same s1).same s2).same s3, fun H4 s4 => ⟨four_le, fun p np => ?_⟩⟩⟩⟩⟩
  have t4 := (((ht.same s1).same s2).same s3).same s4
  have S4 : Same H H4 := ((s1.trans s2).trans s3).trans s4
  have n1 : Same H4 (upd H4 p (.lst [.bl (wordD d), .bl (personD d), .bl (nameD d), .bl (withinD 0 100 d)])) := same_new np
  have hp : (upd H4 p (.lst [.bl (wordD d), .bl (personD d), .bl (nameD d), .bl (withinD 0 100 d)])) p = some (.lst [.bl (wordD d), .bl (personD d), .bl (nameD d), .bl (withinD 0 100 d)]) := upd_same
  have tp := t4.same n1
  have SP := S4.trans n1
  refine ⟨v, rfl, v, d, rfl, tp, fun H5 s5 => ⟨v, rfl, v, d, rfl, tp.same s5, fun H6 s6 => ⟨v, rfl, v, d, rfl, (tp.same s5).same s6, fun H7 s7 => ⟨v, rfl, v, d, rfl, ((tp.same s5).same s6).same s7, fun H8 s8 => ⟨four_le, fun p2 np2 => ?_⟩⟩⟩⟩⟩
  have t8 := (((tp.same s5).same s6).same s7).same s8
  have S8 := ((s5.trans s6).trans s7).trans s8
  have n2 : Same H8 (upd H8 p2 (.lst [.bl (wordD d), .bl (personD d), .bl (nameD d), .bl (withinD 0 100 d)])) := same_new np2
  have hp2 := n2 _ _ (S8 _ _ hp)
  refine ⟨p2, _, rfl, four_dp upd_same, rfl, rfl, (show 1 ≤ 60 by decide), four_len _ _ _ _, ?_⟩
  refine ⟨_, rfl, p, _, rfl, four_dp hp2, rfl, rfl, (show 1 ≤ 60 by decide), four_len _ _ _ _, ?_⟩
  refine ⟨rfl, _, rfl, ?_⟩
  refine iteNS rfl ?_
  have tq := t8.same n2
  refine ⟨v, rfl, v, d, rfl, tq, fun H9 s9 => ⟨v, rfl, v, d, rfl, tq.same s9, fun Ha sa => ⟨v, rfl, v, d, rfl, (tq.same s9).same sa, fun Hb sb => ⟨v, rfl, v, d, rfl, ((tq.same s9).same sa).same sb, fun Hc sc => ⟨four_le, fun p3 np3 => ?_⟩⟩⟩⟩⟩
  have Sc := ((s9.trans sa).trans sb).trans sc
  have n3 : Same Hc (upd Hc p3 (.lst [.bl (wordD d), .bl (personD d), .bl (nameD d), .bl (withinD 0 100 d)])) := same_new np3
  refine ⟨p3, _, rfl, four_dp upd_same, rfl, rfl, (show 1 ≤ 60 by decide), four_len _ _ _ _, ?_⟩
  refine ⟨_, rfl, p, _, rfl, four_dp (n3 _ _ (Sc _ _ hp2)), rfl, rfl, (show 1 ≤ 60 by decide), four_len _ _ _ _, ?_⟩
  refine ⟨rfl, ?_⟩
  have q' := q _ ((((SP.trans S8).trans n2).trans Sc).trans n3)
  rw [decide_eq_true rfl]
  exact q'
end
end K01

namespace K01
open PySem PySem.Spec PyProof.Rows L2 Br
def spLaw (K : PySem.W.Frag) : Sp := fun vs H Q _ => ∃ (a : Addr) (ns : List Int), vs = [.ref a] ∧ SqL K H a (ns.map V.int) ∧ ns.length ≤ 63 ∧ ∀ H', Q (.bl true) H'
theorem fa {p : V → Prop} {x : V} {xs : List V} (h : p x) (t : ∀ y ∈ xs, p y) : ∀ y ∈ x :: xs, p y := List.forall_mem_cons.mpr ⟨h, t⟩
theorem fa0 {p : V → Prop} : ∀ y ∈ ([] : List V), p y := fun _ h => nomatch h
/-- some thing -/
def Any (K : PySem.W.Frag) (H : Hp) (v : V) : Prop := ∃ d, Th K H v d
theorem Any.same {K : PySem.W.Frag} {H H' : Hp} {v : V} (t : Any K H v) (e : Same H H') : Any K H' v := t.imp fun _ h => h.same e
theorem any_str {K : PySem.W.Frag} {H : Hp} {z : Str} (h : z.length ≤ 1000) (a : asc z) : Any K H (.str z) := ⟨_, .dp (.str z) (okS_mk h a)⟩
/-- what is neither a tuple nor a dict, and stands by itself -/
def Flat (v : V) : Prop := ∃ d, (∀ (K : PySem.W.Frag) (H : Hp), Dp K H v d) ∧ shortD d = true
theorem Flat.any {K : PySem.W.Frag} {H : Hp} {v : V} (f : Flat v) : Any K H v := f.imp fun _ h => th_short (h.1 K H) h.2
theorem flat_str {z : Str} (h : z.length ≤ 1000) (a : asc z) : Flat (.str z) := ⟨_, fun _ _ => .str z, okS_mk h a⟩
theorem flat_int (i : Int) : Flat (.int i) := ⟨_, fun _ _ => .int i, rfl⟩
theorem any_tup2 {K : PySem.W.Frag} {H : Hp} {t : Addr} {x y : V} (h : H t = some (.tup [x, y])) (fx : Flat x) (fy : Flat y) : Any K H (.ref t) := by
  obtain ⟨d, hd, sd⟩ := fx
  obtain ⟨e, he, se⟩ := fy
  refine ⟨.tuple [d, e], .dp (.tup (SqT.of h) (.cons (hd K H) (.cons (he K H) .nil))) ?_⟩
  show ([d, e] : List PyData).all shortD = true
  rw [List.all_cons, List.all_cons, sd, se]
  rfl
theorem any_tup3 {K : PySem.W.Frag} {H : Hp} {t : Addr} {x y z : V} (h : H t = some (.tup [x, y, z])) (fx : Flat x) (fy : Flat y) (fz : Flat z) : Any K H (.ref t) := by
  obtain ⟨d, hd, sd⟩ := fx
  obtain ⟨e, he, se⟩ := fy
  obtain ⟨g, hg, sg⟩ := fz
  refine ⟨.tuple [d, e, g], .dp (.tup (SqT.of h) (.cons (hd K H) (.cons (he K H) (.cons (hg K H) .nil)))) ?_⟩
  show ([d, e, g] : List PyData).all shortD = true
  rw [List.all_cons, List.all_cons, List.all_cons, sd, se, sg]
  rfl
theorem any_tup0 {K : PySem.W.Frag} {H : Hp} {t : Addr} (h : H t = some (.tup [])) : Any K H (.ref t) := ⟨.tuple [], .dp (.tup (SqT.of h) .nil) rfl⟩
theorem any_lst2 {K : PySem.W.Frag} {H : Hp} {t : Addr} {x y : V} (h : H t = some (.lst [x, y])) (fx : Flat x) (fy : Flat y) : Any K H (.ref t) := by
  obtain ⟨d, hd, sd⟩ := fx
  obtain ⟨e, he, se⟩ := fy
  exact ⟨.list [d, e], .dp (.lst (SqL.of h) (.cons (hd K H) (.cons (he K H) .nil))) rfl⟩
theorem asc_at : asc at1 := by unfold asc; decide +kernel
theorem asc_a : asc "a" := by unfold asc; decide +kernel
theorem reps {r : Int} (h0 : 0 ≤ r) (h1 : r < 3) : (repS at1 r).length ≤ 2 ∧ asc (repS at1 r) := by
  have : r = 0 ∨ r = 1 ∨ r = 2 := by omega
  rcases this with rfl | rfl | rfl <;> exact ⟨by decide +kernel, by unfold asc; decide +kernel⟩
theorem same_but {Hs H1 H2 : Hp} {p : Addr} (n : Hs p = none) (s : Same Hs H1) (b : But p H1 H2) : Same Hs H2 := fun c o e => b c o (ne_of_none e n) (s c o e)
theorem pick5 {r : Int} (h0 : 0 ≤ r) (h1 : r < 5) (i j : Int) : ∃ v, atI [V.int i, .int j, .bl true, .non, .str "5"] r = some v ∧ Flat v := by
  have : r = 0 ∨ r = 1 ∨ r = 2 ∨ r = 3 ∨ r = 4 := by omega
  rcases this with rfl | rfl | rfl | rfl | rfl
  · exact ⟨_, rfl, flat_int i⟩
  · exact ⟨_, rfl, flat_int j⟩
  · exact ⟨_, rfl, _, fun _ _ => .bl true, rfl⟩
  · exact ⟨_, rfl, _, fun _ _ => .non, rfl⟩
  · exact ⟨_, rfl, flat_str (by decide) (by unfold asc; decide +kernel)⟩
section
variable {P : Program} {w : World} {K : PySem.W.Frag} {mg : Str → Option Value} {base : Heap}
theorem ok_law (T : Txt K mg) : FnG P w K mg base CX0 5 T.f_law T.d_law ["_law_script"] (spLaw K) := by
  have O_law_pool : FnOk P w K mg base CX0 1 _ _ _ _ := ok_law_pool T
  have O_law_take : FnOk P w K mg base CX0 1 _ _ _ _ := ok_law_take T
  have O_law_signs : FnOk P w K mg base CX0 3 _ _ _ _ := ok_law_signs T
  have O_law_right : FnG P w K mg base CX0 4 _ _ _ _ := ok_law_right T
  have O_law_is_person : FnOk P w K mg base CX0 2 _ _ _ _ := ok_law_is_person T
  have O_house_of : FnOk P w K mg base CX0 1 _ _ _ _ := ok_house_of T
  refine okG T.F_law sc_law (fun vs H Q E h => ?_) (fun cdv A outer s H vs Q E hG hr h => ?_)
  · obtain ⟨a, ns, rfl, _⟩ := h
    rfl
  obtain ⟨a, ns, rfl, hS, h63, q⟩ := h
  refine ⟨_, (pss_cons (ps_for PassesOwn.never rfl (pi_list (pe_lst (pa_cons pe_non (pa_cons pe_bl (pa_cons pe_int (pa_cons pe_int (pa_cons pe_int (pa_cons (pe_un un_neg pe_int) (pa_cons (pe_op op_pow pe_int pe_int) (pa_cons pe_str (pa_cons pe_str (pa_cons pe_str (pa_cons pe_str (pa_cons (pe_tup pa_nil) (pa_cons (pe_tup (pa_cons pe_str (pa_cons pe_int pa_nil))) (pa_cons (pe_lst (pa_cons pe_str (pa_cons pe_int pa_nil))) (pa_cons pe_dnewK (pa_cons (pe_tup (pa_cons pe_str (pa_cons pe_int pa_nil))) pa_nil)))))))))))))))))) (pg_name (i := 1) sc_law.nd rfl (.inl rfl))
      (pss_one (ps_if (pt_not (pt_val (pe_callG O_law_right hG (hr.mono (by decide)) (by rfl) T.m_law_right T.F_law_right.kp T.b_law_right pass0 (pa_cons (pv 1) pa_nil))))
      (pss_one (ps_ret pe_bl)) pss_nil)))
    (pss_cons (ps_for PassesOwn.never rfl (pi_range1 (by rfl) T.z_range (pa_cons (pe_callB (call_max2 rfl) (by rfl) T.z_max (by decide +kernel) (pa_cons pe_int (pa_cons (pe_callB (call_min2 rfl) (by rfl) T.z_min (by decide +kernel) (pa_cons (pe_callB call_len_seq (by rfl) T.z_len PySem.boot_len (pa_cons (pv 0) pa_nil)) (pa_cons pe_int pa_nil))) pa_nil))) pa_nil)) (pg_name (i := 2) sc_law.nd rfl (.inl rfl))
      (pss_cons (ps_set (i := 3) sc_law.nd rfl (.inl rfl) (pe_call O_law_pool (hr.mono (by decide)) (by rfl) T.m_law_pool T.F_law_pool.kp T.b_law_pool .nil pass0 (pa_cons (pv 0) (pa_cons (pv 2) pa_nil))))
    (pss_cons (ps_set (i := 4) sc_law.nd rfl (.inl rfl) (pe_call O_law_signs (hr.mono (by decide)) (by rfl) T.m_law_signs T.F_law_signs.kp T.b_law_signs .nil pass0 (pa_cons (pv 3) pa_nil)))
    (pss_cons (ps_set (i := 5) sc_law.nd rfl (.inl rfl) (pe_call O_law_signs (hr.mono (by decide)) (by rfl) T.m_law_signs T.F_law_signs.kp T.b_law_signs .nil pass0 (pa_cons (pv 3) pa_nil)))
    (pss_cons (ps_set (i := 6) sc_law.nd rfl (.inl rfl) (pe_op op_add_str (pe_op op_add_str (pv 4) (pe_op Br.op_mulS pe_str (pe_call O_law_take (hr.mono (by decide)) (by rfl) T.m_law_take T.F_law_take.kp T.b_law_take .nil pass0 (pa_cons (pv 3) (pa_cons pe_int pa_nil))))) (pv 5)))
    (pss_cons (ps_set (i := 7) sc_law.nd rfl (.inl rfl) (pe_ix (ix_listK K) (pe_lst (pa_cons (pe_op op_sub (pe_call O_law_take (hr.mono (by decide)) (by rfl) T.m_law_take T.F_law_take.kp T.b_law_take .nil pass0 (pa_cons (pv 3) (pa_cons pe_int pa_nil))) pe_int) (pa_cons (pe_op op_add pe_int (pe_call O_law_take (hr.mono (by decide)) (by rfl) T.m_law_take T.F_law_take.kp T.b_law_take .nil pass0 (pa_cons (pv 3) (pa_cons pe_int pa_nil)))) (pa_cons pe_bl (pa_cons pe_non (pa_cons pe_str pa_nil)))))) (pe_call O_law_take (hr.mono (by decide)) (by rfl) T.m_law_take T.F_law_take.kp T.b_law_take .nil pass0 (pa_cons (pv 3) (pa_cons pe_int pa_nil))) (fun _ _ => rfl)))
    (pss_cons (ps_set (i := 8) sc_law.nd rfl (.inl rfl) (pe_lst (pa_cons (pv 4) (pa_cons (pv 6) (pa_cons (pe_op op_add_str (pe_op op_add_str (pv 6) pe_str) (pv 4)) (pa_cons (pe_tup (pa_cons (pv 4) (pa_cons (pv 7) pa_nil))) (pa_cons (pe_tup (pa_cons (pv 4) (pa_cons (pv 7) (pa_cons pe_int pa_nil)))) (pa_cons (pe_lst (pa_cons (pv 4) (pa_cons (pv 7) pa_nil))) (pa_cons (pe_tup (pa_cons (pv 6) (pa_cons pe_int pa_nil))) (pa_cons (pv 7) (pa_cons (pe_tup (pa_cons (pv 7) (pa_cons (pv 4) pa_nil))) pa_nil)))))))))))
    (pss_cons (ps_for PassesOwn.never rfl (pi_list (pv 8)) (pg_name (i := 1) sc_law.nd rfl (.inl rfl))
      (pss_one (ps_if (pt_not (pt_val (pe_callG O_law_right hG (hr.mono (by decide)) (by rfl) T.m_law_right T.F_law_right.kp T.b_law_right pass0 (pa_cons (pv 1) pa_nil))))
      (pss_one (ps_ret pe_bl)) pss_nil)))
    (pss_one (ps_if (PW.pt (pw_and (pt_val (pe_call O_law_is_person (hr.mono (by decide)) (by rfl) T.m_law_is_person T.F_law_is_person.kp T.b_law_is_person .nil pass0 (pa_cons (pv 6) pa_nil))) (pw_and1 (pt_cmpR (op_neDK K hr.units) (pe_lst (pa_cons (pe_call O_house_of (hr.mono (by decide)) (by rfl) T.m_house_of T.F_house_of.kp T.b_house_of .nil pass0 (pa_cons (pv 6) pa_nil)) (pa_cons (pe_callK0 O_house_of (hr.mono (by decide)) (by rfl) T.m_house_of T.F_house_of.kp T.kw_house_of pass0 (pk_cons (pv 6) pk_nil)) pa_nil))) (pe_op op_rep (pe_slice sl_list (pe_split (pv 6) pe_str) (po_some pe_int) po_none) pe_int) (nomark _)))))
      (pss_one (ps_ret pe_bl)) pss_nil))))))))))
    (pss_one (ps_ret pe_bl)))), ?_⟩
  -- the sixteen
  refine ⟨1, rfl, _, _, rfl, rfl, ⟨by decide, by decide, by decide⟩, (show 0 ≤ sizeLine by decide), fun p1 n1 => ⟨two_le, fun p2 n2 => ⟨two_le, fun p3 n3 => fun p4 n4 => ⟨two_le, fun p5 n5 => ⟨(show 16 ≤ sizeLine by decide), fun L nL => ?_⟩⟩⟩⟩⟩
  have s1 : Same H _ := same_new (o := .tup []) n1
  have s2 : Same _ _ := same_new (o := .tup [.str "a", .int 0]) n2
  have s3 : Same _ _ := same_new (o := .lst [.str "a", .int 0]) n3
  have s4 : Same _ _ := same_new (o := .dK []) n4
  have s5 : Same _ _ := same_new (o := .tup [.str "a", .int 99999]) n5
  have fa_a : Flat (.str "a") := flat_str (by decide) asc_a
  have e1 := (((s2.trans s3).trans s4).trans s5) p1 _ upd_same
  have e2 := ((s3.trans s4).trans s5) p2 _ upd_same
  have e3 := (s4.trans s5) p3 _ upd_same
  have e4 := s5 p4 _ upd_same
  have S5 := (((s1.trans s2).trans s3).trans s4).trans s5
  have all16 : ∀ v ∈ [V.non, .bl true, .int 0, .int 100, .int 101, .int (-1), .int (10 ^ (30 : Int).toNat), .str "", .str "@", .str "a@", .str "@a", .ref p1, .ref p2, .ref p3, .ref p4, .ref p5], Any K _ v :=
    fa ⟨_, .dp .non rfl⟩ (fa ⟨_, .dp (.bl true) rfl⟩ (fa (flat_int _).any (fa (flat_int _).any (fa (flat_int _).any (fa (flat_int _).any (fa (flat_int _).any
      (fa (any_str (by decide) (by unfold asc; decide +kernel)) (fa (any_str (by decide) (by unfold asc; decide +kernel)) (fa (any_str (by decide) (by unfold asc; decide +kernel)) (fa (any_str (by decide) (by unfold asc; decide +kernel))
      (fa (any_tup0 e1) (fa (any_tup2 e2 fa_a (flat_int 0)) (fa (any_lst2 e3 fa_a (flat_int 0)) (fa ⟨_, .dict e4⟩ (fa (any_tup2 upd_same fa_a (flat_int 99999)) fa0)))))))))))))))
  have s6 := same_new (o := .lst [V.non, .bl true, .int 0, .int 100, .int 101, .int (-1), .int (10 ^ (30 : Int).toNat), .str "", .str "@", .str "a@", .str "@a", .ref p1, .ref p2, .ref p3, .ref p4, .ref p5]) nL
  have hS6 := s6.seq (S5.seq hS)
  refine ⟨L, rfl, ⟨_, SqL.of upd_same⟩, ?_⟩
  refine for_list (xs := [V.non, .bl true, .int 0, .int 100, .int 101, .int (-1), .int (10 ^ (30 : Int).toNat), .str "", .str "@", .str "a@", .str "@a", .ref p1, .ref p2, .ref p3, .ref p4, .ref p5])
    (fun i σ H' => (∃ y, σ = [some (.ref a), y, none, none, none, none, none, none, none]) ∧ Same _ H') ⟨⟨_, rfl⟩, Same.refl _⟩ (fun _ _ _ _ hp => hp.2.seq (SqL.of upd_same)) (fun i x σ H1 hx hp => ?_) (fun σ H1 hp => ?_)
  · obtain ⟨⟨y, rfl⟩, t1⟩ := hp
    obtain ⟨d, hd⟩ := all16 x (List.mem_of_getElem? hx)
    refine ⟨_, rfl, x, d, rfl, (hd.same s6).same t1, fun H2 t2 => ⟨_, rfl, ?_⟩⟩
    exact iteF ⟨⟨_, rfl⟩, t1.trans t2⟩
  obtain ⟨⟨y, rfl⟩, t1⟩ := hp
  have hS7 := t1.seq hS6
  generalize upd _ L _ = H6 at *
  -- the draws
  refine ⟨_, rfl, a, _, rfl, .inl hS7, _, _, rfl, _, _, rfl, ?_⟩
  have jb : ∀ m : Int, 0 ≤ m → m ≤ 63 → 1 ≤ (if (if 40 < m then 40 else m) > 1 then (if 40 < m then 40 else m) else 1 : Int) ∧ (if (if 40 < m then 40 else m) > 1 then (if 40 < m then 40 else m) else 1 : Int) ≤ 40 := by
    intro m h0 h1
    split <;> split <;> omega
  have jb' := jb ((ns.map V.int).length : Nat) (by omega) (by rw [List.length_map]; omega)
  refine ⟨_, rfl, by omega, by omega, ?_⟩
  refine for_range (fun i σ H' => (∃ y1 y2 y3 y4 y5 y6 y7 y8, σ = [some (.ref a), y1, y2, y3, y4, y5, y6, y7, y8]) ∧ Same H1 H') ⟨⟨_, _, _, _, _, _, _, _, rfl⟩, Same.refl _⟩ (fun i σ H2 hi hp => ?_) (fun σ H2 hp => ?_)
  · obtain ⟨⟨y1, y2, y3, y4, y5, y6, y7, y8, rfl⟩, t2⟩ := hp
    have hS8 := t2.seq hS7
    -- the pool
    refine ⟨_, rfl, _, rfl, a, ns, _, rfl, hS8, by omega, by omega, fun H3 p u3 np hp3 => ?_⟩
    -- one, other
    refine ⟨_, rfl, p, rfl, hp3, fun H4 z1 b4 hp4 l1 a1 => ?_⟩
    refine ⟨_, rfl, p, rfl, hp4, fun H5 z2 b5 hp5 l2 a2 => ?_⟩
    -- both
    refine ⟨_, rfl, _, rfl, p, 3, rfl, hp5, by decide, by decide, fun H6 r6 b6 hp6 r60 r61 => ?_⟩
    obtain ⟨lr, ar⟩ := reps r60 r61
    refine ⟨at1, r6, rfl, rfl, r60, by omega, by decide, Nat.le_of_lt (small_len (by omega)), ?_⟩
    have lq : (z1 ++ repS at1 r6).length = z1.length + (repS at1 r6).length := Str.length_append ..
    have lb : (z1 ++ repS at1 r6 ++ z2).length = (z1 ++ repS at1 r6).length + z2.length := Str.length_append ..
    refine ⟨_, _, rfl, rfl, Nat.le_of_lt (small_len (by omega)), _, rfl, _, _, rfl, rfl, Nat.le_of_lt (small_len (by omega)), ?_⟩
    have ab : asc (z1 ++ repS at1 r6 ++ z2) := asc_app (asc_app a1 ar) a2
    -- size
    refine ⟨_, rfl, p, 120, rfl, hp6, by decide, by decide, fun H7 r7 b7 hp7 r70 r71 => ⟨_, _, rfl, rfl, ?_⟩⟩
    refine ⟨_, rfl, p, 3, rfl, hp7, by decide, by decide, fun H8 r8 b8 hp8 r80 r81 => ⟨_, _, rfl, rfl, (show 5 ≤ sizeLine by decide), fun L5 nL5 => ?_⟩⟩
    refine ⟨_, rfl, p, 5, rfl, hp8.same (same_new nL5), by decide, by decide, fun H9 r9 b9 hp9 r90 r91 => ?_⟩
    obtain ⟨sz, hsz, fsz⟩ := pick5 r90 r91 (r7 - 9) (99999 + r8)
    refine ⟨L5, _, r9, sz, rfl, rfl, SqL.of (b9 L5 _ (hp8.ne nL5) upd_same), hsz, ?_⟩
    have T9 : Same H2 H9 := same_but np u3 ((((((b4.trans b5).trans b6).trans b7).trans b8).trans (.new nL5)).trans b9)
    -- some
    generalize hb : z1 ++ repS at1 r6 ++ z2 = zb at lb ab
    have lbt : zb.length ≤ 100 := by omega
    have lc1 : (zb ++ at1).length = zb.length + 1 := Str.length_append ..
    have lc2 : (zb ++ at1 ++ z1).length = (zb ++ at1).length + z1.length := Str.length_append ..
    have f1 : Flat (.str z1) := flat_str (by omega) a1
    have fb : Flat (.str zb) := flat_str (by omega) ab
    refine ⟨_, rfl, _, rfl, _, rfl, zb, at1, rfl, rfl, Nat.le_of_lt (small_len (by rw [show at1.length = 1 from rfl]; omega)), _, rfl, zb ++ at1, z1, rfl, rfl, Nat.le_of_lt (small_len (by omega)), ?_⟩
    refine ⟨_, rfl, _, rfl, two_le, fun q1 m1 => ⟨_, rfl, _, rfl, (show 3 ≤ sizeLine by decide), fun q2 m2 => ⟨_, rfl, _, rfl, two_le, fun q3 m3 => ⟨_, rfl, two_le, fun q4 m4 => ⟨_, rfl, _, rfl, _, rfl, two_le, fun q5 m5 => ⟨(show 9 ≤ sizeLine by decide), fun L9 nL9 => ?_⟩⟩⟩⟩⟩⟩
    have v1 := same_new (o := .tup [.str z1, sz]) m1
    have v2 := same_new (o := .tup [.str z1, sz, .int 0]) m2
    have v3 := same_new (o := .lst [.str z1, sz]) m3
    have v4 := same_new (o := .tup [.str zb, .int 3]) m4
    have v5 := same_new (o := .tup [sz, .str z1]) m5
    have g1 := (((v2.trans v3).trans v4).trans v5) q1 _ upd_same
    have g2 := ((v3.trans v4).trans v5) q2 _ upd_same
    have g3 := (v4.trans v5) q3 _ upd_same
    have g4 := v5 q4 _ upd_same
    have V5 := (((v1.trans v2).trans v3).trans v4).trans v5
    have all9 : ∀ v ∈ [V.str z1, .str zb, .str (zb ++ at1 ++ z1), .ref q1, .ref q2, .ref q3, .ref q4, sz, .ref q5], Any K _ v :=
      fa f1.any (fa fb.any (fa (any_str (by omega) (asc_app (asc_app ab asc_at) a1)) (fa (any_tup2 g1 f1 fsz) (fa (any_tup3 g2 f1 fsz (flat_int 0)) (fa (any_lst2 g3 f1 fsz) (fa (any_tup2 g4 fb (flat_int 3)) (fa fsz.any (fa (any_tup2 upd_same fsz f1) fa0))))))))
    have v6 := same_new (o := .lst [V.str z1, .str zb, .str (zb ++ at1 ++ z1), .ref q1, .ref q2, .ref q3, .ref q4, sz, .ref q5]) nL9
    have V6 := V5.trans v6
    refine ⟨_, rfl, L9, rfl, ⟨_, SqL.of upd_same⟩, ?_⟩
    refine for_list (xs := [V.str z1, .str zb, .str (zb ++ at1 ++ z1), .ref q1, .ref q2, .ref q3, .ref q4, sz, .ref q5])
      (fun _ σ H' => (∃ y1, σ = [some (.ref a), y1, some (.int (0 + (i : Nat))), some (.ref p), some (.str z1), some (.str z2), some (.str zb), some sz, some (.ref L9)]) ∧ Same _ H') ⟨⟨_, by subst hb; rfl⟩, Same.refl _⟩ (fun _ _ _ _ hp => hp.2.seq (SqL.of upd_same)) (fun j x σ Ha hx hp => ?_) (fun σ Ha hp => ?_)
    · obtain ⟨⟨y, rfl⟩, ta⟩ := hp
      obtain ⟨d, hd⟩ := all9 x (List.mem_of_getElem? hx)
      refine ⟨_, rfl, x, d, rfl, (hd.same v6).same ta, fun Hb tb => ⟨_, rfl, ?_⟩⟩
      exact iteF ⟨⟨_, rfl⟩, ta.trans tb⟩
    · obtain ⟨⟨y, rfl⟩, ta⟩ := hp
      have Ta : Same H1 Ha := ((t2.trans T9).trans V6).trans ta
      refine ⟨_, rfl, .str zb, .str zb, rfl, .dp (.str zb) (okS_mk (by omega) ab), fun Hb tb => ⟨_, rfl, ?_⟩⟩
      refine ite2 (fun c => ?_) (fun c => ?_)
      · have hs : ∃ x y, Txt.split zb at1 = [x, y] := by
          have c' : personS zb = true := c
          unfold personS at c'
          split at c'
          · rename_i x y e
            exact ⟨x, y, e⟩
          · cases c'
        obtain ⟨x, y, hsp⟩ := hs
        refine ⟨_, rfl, zb, x, y, rfl, by omega, hsp, fun Hc tc => ⟨_, rfl, zb, x, y, rfl, by omega, hsp, fun Hd td => ⟨two_le, fun D nD => ?_⟩⟩⟩
        refine ⟨_, rfl, ⟨_, rfl⟩, zb, at1, rfl, rfl, at1_len, Nat.le_of_lt (small_len (by omega)), fun e1 m6 => ?_⟩
        have hc : cutV ((Txt.split zb at1).map V.str) (some 1) none = [.str y] := by rw [hsp]; rfl
        refine ⟨1, rfl, e1, _, rfl, SqL.of upd_same, fun e2 m7 => ?_⟩
        refine ⟨e2, 2, [.str y], rfl, rfl, by rw [upd_same, hc], by decide, by decide, (show 2 ≤ sizeLine by decide), fun e3 m8 => ?_⟩
        have w1 := same_new (o := .lst [.str y, .str y]) nD
        have w2 := same_new (o := .lst ((Txt.split zb at1).map V.str)) m6
        have w3 := same_new (o := .lst (cutV ((Txt.split zb at1).map V.str) (some 1) none)) m7
        have w4 := same_new (o := .lst (List.replicate (2 : Int).toNat [V.str y]).flatten) m8
        have ay : asc y := part_asc (x := zb) (y := at1) (by rw [hsp]; simp) ab
        have ds : ∀ {Hx : Hp}, DpAll K Hx [.str y, .str y] [.str y, .str y] := .cons (.str y) (.cons (.str y) .nil)
        have sh : SeqAt.shaped (.list [.str y, .str y]) = true := shaped_strs (ys := [y, y]) (fun z hz => by simp at hz; rw [hz]; exact ay)
        refine ⟨.list [.str y, .str y], .list [.str y, .str y], .lst (SqL.of ((w2.trans (w3.trans w4)) D _ upd_same)) ds, .lst (SqL.of upd_same) ds, sh, sh, _, rfl, ?_⟩
        have ee : PyData.eqv (.list [.str y, .str y]) (.list [.str y, .str y]) = true := by simp [PyData.eqv, PyData.eqvAll]
        rw [ee]
        exact iteF ⟨⟨_, _, _, _, _, _, _, _, rfl⟩, ((((((Ta.trans tb).trans tc).trans td).trans w1).trans w2).trans w3).trans w4⟩
      · exact iteF ⟨⟨_, _, _, _, _, _, _, _, rfl⟩, Ta.trans tb⟩
  · exact q H2
end
end K01

namespace K01
open PySem PySem.Spec PyProof.Rows L2 Br
theorem txt_mk {K : PySem.W.Frag} {h : Heap} {mg : Str → Option Value} (X : K.In h) (G : h.Ns mainGlobals mg)
    {f0 : Addr} {od0 an0 : Option Addr} {sl0 : Array (Option Value)} {oc0 kV0 dc0 pm0 cd0 ct0 : Value}
    (a0 : PySem.W.nsIn K mainGlobals "is_whole" = some (some (.ref f0))) (l0 : K.lookup f0 = some ⟨oc0, od0, .func (PySem.W.fnOf "is_whole" "is_whole" (defArgs s_is_whole) (defBody s_is_whole) (defScope s_is_whole) .none kV0 dc0 pm0 an0 cd0 ct0), sl0⟩) (c0 : PySem.W.codeIn K cd0 "is_whole" = true) (k0 : PySem.W.keepIn K (.ref f0) = true)
    {f1 : Addr} {od1 an1 : Option Addr} {sl1 : Array (Option Value)} {oc1 kV1 dc1 pm1 cd1 ct1 : Value}
    (a1 : PySem.W.nsIn K mainGlobals "is_word" = some (some (.ref f1))) (l1 : K.lookup f1 = some ⟨oc1, od1, .func (PySem.W.fnOf "is_word" "is_word" (defArgs s_is_word) (defBody s_is_word) (defScope s_is_word) .none kV1 dc1 pm1 an1 cd1 ct1), sl1⟩) (c1 : PySem.W.codeIn K cd1 "is_word" = true) (k1 : PySem.W.keepIn K (.ref f1) = true)
    {f2 : Addr} {od2 an2 : Option Addr} {sl2 : Array (Option Value)} {oc2 kV2 dc2 pm2 cd2 ct2 : Value}
    (a2 : PySem.W.nsIn K mainGlobals "is_person" = some (some (.ref f2))) (l2 : K.lookup f2 = some ⟨oc2, od2, .func (PySem.W.fnOf "is_person" "is_person" (defArgs s_is_person) (defBody s_is_person) (defScope s_is_person) .none kV2 dc2 pm2 an2 cd2 ct2), sl2⟩) (c2 : PySem.W.codeIn K cd2 "is_person" = true) (k2 : PySem.W.keepIn K (.ref f2) = true)
    {f3 : Addr} {od3 an3 : Option Addr} {sl3 : Array (Option Value)} {oc3 kV3 dc3 pm3 cd3 ct3 : Value}
    (a3 : PySem.W.nsIn K mainGlobals "is_name" = some (some (.ref f3))) (l3 : K.lookup f3 = some ⟨oc3, od3, .func (PySem.W.fnOf "is_name" "is_name" (defArgs s_is_name) (defBody s_is_name) (defScope s_is_name) .none kV3 dc3 pm3 an3 cd3 ct3), sl3⟩) (c3 : PySem.W.codeIn K cd3 "is_name" = true) (k3 : PySem.W.keepIn K (.ref f3) = true)
    {f4 : Addr} {od4 an4 : Option Addr} {sl4 : Array (Option Value)} {oc4 kV4 dc4 pm4 cd4 ct4 : Value}
    (a4 : PySem.W.nsIn K mainGlobals "is_rank" = some (some (.ref f4))) (l4 : K.lookup f4 = some ⟨oc4, od4, .func (PySem.W.fnOf "is_rank" "is_rank" (defArgs s_is_rank) (defBody s_is_rank) (defScope s_is_rank) .none kV4 dc4 pm4 an4 cd4 ct4), sl4⟩) (c4 : PySem.W.codeIn K cd4 "is_rank" = true) (k4 : PySem.W.keepIn K (.ref f4) = true)
    {f5 : Addr} {od5 an5 : Option Addr} {sl5 : Array (Option Value)} {oc5 kV5 dc5 pm5 cd5 ct5 : Value}
    (a5 : PySem.W.nsIn K mainGlobals "house_of" = some (some (.ref f5))) (l5 : K.lookup f5 = some ⟨oc5, od5, .func (PySem.W.fnOf "house_of" "house_of" (defArgs s_house_of) (defBody s_house_of) (defScope s_house_of) .none kV5 dc5 pm5 an5 cd5 ct5), sl5⟩) (c5 : PySem.W.codeIn K cd5 "house_of" = true) (k5 : PySem.W.keepIn K (.ref f5) = true)
    {f6 : Addr} {od6 an6 : Option Addr} {sl6 : Array (Option Value)} {oc6 kV6 dc6 pm6 cd6 ct6 : Value}
    (a6 : PySem.W.nsIn K mainGlobals "_law_pool" = some (some (.ref f6))) (l6 : K.lookup f6 = some ⟨oc6, od6, .func (PySem.W.fnOf "_law_pool" "_law_pool" (defArgs s_law_pool) (defBody s_law_pool) (defScope s_law_pool) .none kV6 dc6 pm6 an6 cd6 ct6), sl6⟩) (c6 : PySem.W.codeIn K cd6 "_law_pool" = true) (k6 : PySem.W.keepIn K (.ref f6) = true)
    {f7 : Addr} {od7 an7 : Option Addr} {sl7 : Array (Option Value)} {oc7 kV7 dc7 pm7 cd7 ct7 : Value}
    (a7 : PySem.W.nsIn K mainGlobals "_law_take" = some (some (.ref f7))) (l7 : K.lookup f7 = some ⟨oc7, od7, .func (PySem.W.fnOf "_law_take" "_law_take" (defArgs s_law_take) (defBody s_law_take) (defScope s_law_take) .none kV7 dc7 pm7 an7 cd7 ct7), sl7⟩) (c7 : PySem.W.codeIn K cd7 "_law_take" = true) (k7 : PySem.W.keepIn K (.ref f7) = true)
    {f8 : Addr} {od8 an8 : Option Addr} {sl8 : Array (Option Value)} {oc8 kV8 dc8 pm8 cd8 ct8 : Value}
    (a8 : PySem.W.nsIn K mainGlobals "_law_letters" = some (some (.ref f8))) (l8 : K.lookup f8 = some ⟨oc8, od8, .func (PySem.W.fnOf "_law_letters" "_law_letters" (defArgs s_law_letters) (defBody s_law_letters) (defScope s_law_letters) .none kV8 dc8 pm8 an8 cd8 ct8), sl8⟩) (c8 : PySem.W.codeIn K cd8 "_law_letters" = true) (k8 : PySem.W.keepIn K (.ref f8) = true)
    {f9 : Addr} {od9 an9 : Option Addr} {sl9 : Array (Option Value)} {oc9 kV9 dc9 pm9 cd9 ct9 : Value}
    (a9 : PySem.W.nsIn K mainGlobals "_law_signs" = some (some (.ref f9))) (l9 : K.lookup f9 = some ⟨oc9, od9, .func (PySem.W.fnOf "_law_signs" "_law_signs" (defArgs s_law_signs) (defBody s_law_signs) (defScope s_law_signs) .none kV9 dc9 pm9 an9 cd9 ct9), sl9⟩) (c9 : PySem.W.codeIn K cd9 "_law_signs" = true) (k9 : PySem.W.keepIn K (.ref f9) = true)
    {f10 : Addr} {od10 an10 : Option Addr} {sl10 : Array (Option Value)} {oc10 kV10 dc10 pm10 cd10 ct10 : Value}
    (a10 : PySem.W.nsIn K mainGlobals "_law_is_word" = some (some (.ref f10))) (l10 : K.lookup f10 = some ⟨oc10, od10, .func (PySem.W.fnOf "_law_is_word" "_law_is_word" (defArgs s_law_is_word) (defBody s_law_is_word) (defScope s_law_is_word) .none kV10 dc10 pm10 an10 cd10 ct10), sl10⟩) (c10 : PySem.W.codeIn K cd10 "_law_is_word" = true) (k10 : PySem.W.keepIn K (.ref f10) = true)
    {f11 : Addr} {od11 an11 : Option Addr} {sl11 : Array (Option Value)} {oc11 kV11 dc11 pm11 cd11 ct11 : Value}
    (a11 : PySem.W.nsIn K mainGlobals "_law_is_person" = some (some (.ref f11))) (l11 : K.lookup f11 = some ⟨oc11, od11, .func (PySem.W.fnOf "_law_is_person" "_law_is_person" (defArgs s_law_is_person) (defBody s_law_is_person) (defScope s_law_is_person) .none kV11 dc11 pm11 an11 cd11 ct11), sl11⟩) (c11 : PySem.W.codeIn K cd11 "_law_is_person" = true) (k11 : PySem.W.keepIn K (.ref f11) = true)
    {f12 : Addr} {od12 an12 : Option Addr} {sl12 : Array (Option Value)} {oc12 kV12 dc12 pm12 cd12 ct12 : Value}
    (a12 : PySem.W.nsIn K mainGlobals "_law_within" = some (some (.ref f12))) (l12 : K.lookup f12 = some ⟨oc12, od12, .func (PySem.W.fnOf "_law_within" "_law_within" (defArgs s_law_within) (defBody s_law_within) (defScope s_law_within) .none kV12 dc12 pm12 an12 cd12 ct12), sl12⟩) (c12 : PySem.W.codeIn K cd12 "_law_within" = true) (k12 : PySem.W.keepIn K (.ref f12) = true)
    {f13 : Addr} {od13 an13 : Option Addr} {sl13 : Array (Option Value)} {oc13 kV13 dc13 pm13 cd13 ct13 : Value}
    (a13 : PySem.W.nsIn K mainGlobals "_law_is_title" = some (some (.ref f13))) (l13 : K.lookup f13 = some ⟨oc13, od13, .func (PySem.W.fnOf "_law_is_title" "_law_is_title" (defArgs s_law_is_title) (defBody s_law_is_title) (defScope s_law_is_title) .none kV13 dc13 pm13 an13 cd13 ct13), sl13⟩) (c13 : PySem.W.codeIn K cd13 "_law_is_title" = true) (k13 : PySem.W.keepIn K (.ref f13) = true)
    {f14 : Addr} {od14 an14 : Option Addr} {sl14 : Array (Option Value)} {oc14 kV14 dc14 pm14 cd14 ct14 : Value}
    (a14 : PySem.W.nsIn K mainGlobals "_law_right" = some (some (.ref f14))) (l14 : K.lookup f14 = some ⟨oc14, od14, .func (PySem.W.fnOf "_law_right" "_law_right" (defArgs s_law_right) (defBody s_law_right) (defScope s_law_right) .none kV14 dc14 pm14 an14 cd14 ct14), sl14⟩) (c14 : PySem.W.codeIn K cd14 "_law_right" = true) (k14 : PySem.W.keepIn K (.ref f14) = true)
    {f15 : Addr} {od15 an15 : Option Addr} {sl15 : Array (Option Value)} {oc15 kV15 dc15 pm15 cd15 ct15 : Value}
    (a15 : PySem.W.nsIn K mainGlobals "law" = some (some (.ref f15))) (l15 : K.lookup f15 = some ⟨oc15, od15, .func (PySem.W.fnOf "law" "law" (defArgs s_law) (defBody s_law) (defScope s_law) .none kV15 dc15 pm15 an15 cd15 ct15), sl15⟩) (c15 : PySem.W.codeIn K cd15 "law" = true) (k15 : PySem.W.keepIn K (.ref f15) = true)
    {t_LONGEST_WORD : Tok} (g_LONGEST_WORD : PySem.W.nsIn K mainGlobals "LONGEST_WORD" = some (some (.int 8 t_LONGEST_WORD)))
    {t_GREATEST_NUMBER : Tok} (g_GREATEST_NUMBER : PySem.W.nsIn K mainGlobals "GREATEST_NUMBER" = some (some (.int 99999 t_GREATEST_NUMBER)))
    {t_GREATEST_RANK : Tok} (g_GREATEST_RANK : PySem.W.nsIn K mainGlobals "GREATEST_RANK" = some (some (.int 100 t_GREATEST_RANK)))
    (z_bool : PySem.W.nsIn K mainGlobals "bool" = some none)
    (z_int : PySem.W.nsIn K mainGlobals "int" = some none)
    (z_isinstance : PySem.W.nsIn K mainGlobals "isinstance" = some none)
    (z_len : PySem.W.nsIn K mainGlobals "len" = some none)
    (z_max : PySem.W.nsIn K mainGlobals "max" = some none)
    (z_min : PySem.W.nsIn K mainGlobals "min" = some none)
    (z_range : PySem.W.nsIn K mainGlobals "range" = some none)
    (z_repr : PySem.W.nsIn K mainGlobals "repr" = some none)
    (z_str : PySem.W.nsIn K mainGlobals "str" = some none)
    (z_tuple : PySem.W.nsIn K mainGlobals "tuple" = some none)
    : Nonempty (PSigma fun T : Txt K mg => T.d_law = PySem.W.fnOf "law" "law" (defArgs s_law) (defBody s_law) (defScope s_law) .none kV15 dc15 pm15 an15 cd15 ct15) := by
  have F0 := fun_mk (st := s_is_whole) l0 c0 k0
  have b0 := F0.binds (ps := ["thing"]) fun _ _ _ _ _ _ us hl => match us, hl with | [_], _ => rfl
  have F1 := fun_mk (st := s_is_word) l1 c1 k1
  have b1 := F1.binds (ps := ["thing"]) fun _ _ _ _ _ _ us hl => match us, hl with | [_], _ => rfl
  have F2 := fun_mk (st := s_is_person) l2 c2 k2
  have b2 := F2.binds (ps := ["thing"]) fun _ _ _ _ _ _ us hl => match us, hl with | [_], _ => rfl
  have F3 := fun_mk (st := s_is_name) l3 c3 k3
  have b3 := F3.binds (ps := ["thing"]) fun _ _ _ _ _ _ us hl => match us, hl with | [_], _ => rfl
  have F4 := fun_mk (st := s_is_rank) l4 c4 k4
  have b4 := F4.binds (ps := ["thing"]) fun _ _ _ _ _ _ us hl => match us, hl with | [_], _ => rfl
  have F5 := fun_mk (st := s_house_of) l5 c5 k5
  have b5 := F5.binds (ps := ["person"]) fun _ _ _ _ _ _ us hl => match us, hl with | [_], _ => rfl
  have F6 := fun_mk (st := s_law_pool) l6 c6 k6
  have b6 := F6.binds (ps := ["_law_script", "_law_k"]) fun _ _ _ _ _ _ us hl => match us, hl with | [_, _], _ => rfl
  have F7 := fun_mk (st := s_law_take) l7 c7 k7
  have b7 := F7.binds (ps := ["_law_pool_here", "_law_many"]) fun _ _ _ _ _ _ us hl => match us, hl with | [_, _], _ => rfl
  have F8 := fun_mk (st := s_law_letters) l8 c8 k8
  have b8 := F8.binds (ps := ["_law_pool_here", "_law_many"]) fun _ _ _ _ _ _ us hl => match us, hl with | [_, _], _ => rfl
  have F9 := fun_mk (st := s_law_signs) l9 c9 k9
  have b9 := F9.binds (ps := ["_law_pool_here"]) fun _ _ _ _ _ _ us hl => match us, hl with | [_], _ => rfl
  have F10 := fun_mk (st := s_law_is_word) l10 c10 k10
  have b10 := F10.binds (ps := ["_law_item"]) fun _ _ _ _ _ _ us hl => match us, hl with | [_], _ => rfl
  have F11 := fun_mk (st := s_law_is_person) l11 c11 k11
  have b11 := F11.binds (ps := ["_law_item"]) fun _ _ _ _ _ _ us hl => match us, hl with | [_], _ => rfl
  have F12 := fun_mk (st := s_law_within) l12 c12 k12
  have b12 := F12.binds (ps := ["_law_item", "_law_least", "_law_most"]) fun _ _ _ _ _ _ us hl => match us, hl with | [_, _, _], _ => rfl
  have F13 := fun_mk (st := s_law_is_title) l13 c13 k13
  have b13 := F13.binds (ps := ["_law_item"]) fun _ _ _ _ _ _ us hl => match us, hl with | [_], _ => rfl
  have F14 := fun_mk (st := s_law_right) l14 c14 k14
  have b14 := F14.binds (ps := ["_law_item"]) fun _ _ _ _ _ _ us hl => match us, hl with | [_], _ => rfl
  have F15 := fun_mk (st := s_law) l15 c15 k15
  have b15 := F15.binds (ps := ["_law_script"]) fun _ _ _ _ _ _ us hl => match us, hl with | [_], _ => rfl
  exact ⟨⟨{
    f_is_whole := f0, d_is_whole := _, F_is_whole := F0, b_is_whole := b0, kw_is_whole := fun s ws hl => match ws, hl with | [_], _ => .of_eq rfl, m_is_whole := PySem.W.mg_of X G a0,
    f_is_word := f1, d_is_word := _, F_is_word := F1, b_is_word := b1, kw_is_word := fun s ws hl => match ws, hl with | [_], _ => .of_eq rfl, m_is_word := PySem.W.mg_of X G a1,
    f_is_person := f2, d_is_person := _, F_is_person := F2, b_is_person := b2, kw_is_person := fun s ws hl => match ws, hl with | [_], _ => .of_eq rfl, m_is_person := PySem.W.mg_of X G a2,
    f_is_name := f3, d_is_name := _, F_is_name := F3, b_is_name := b3, kw_is_name := fun s ws hl => match ws, hl with | [_], _ => .of_eq rfl, m_is_name := PySem.W.mg_of X G a3,
    f_is_rank := f4, d_is_rank := _, F_is_rank := F4, b_is_rank := b4, kw_is_rank := fun s ws hl => match ws, hl with | [_], _ => .of_eq rfl, m_is_rank := PySem.W.mg_of X G a4,
    f_house_of := f5, d_house_of := _, F_house_of := F5, b_house_of := b5, kw_house_of := fun s ws hl => match ws, hl with | [_], _ => .of_eq rfl, m_house_of := PySem.W.mg_of X G a5,
    f_law_pool := f6, d_law_pool := _, F_law_pool := F6, b_law_pool := b6, kw_law_pool := fun s ws hl => match ws, hl with | [_, _], _ => .of_eq rfl, m_law_pool := PySem.W.mg_of X G a6,
    f_law_take := f7, d_law_take := _, F_law_take := F7, b_law_take := b7, kw_law_take := fun s ws hl => match ws, hl with | [_, _], _ => .of_eq rfl, m_law_take := PySem.W.mg_of X G a7,
    f_law_letters := f8, d_law_letters := _, F_law_letters := F8, b_law_letters := b8, kw_law_letters := fun s ws hl => match ws, hl with | [_, _], _ => .of_eq rfl, m_law_letters := PySem.W.mg_of X G a8,
    f_law_signs := f9, d_law_signs := _, F_law_signs := F9, b_law_signs := b9, kw_law_signs := fun s ws hl => match ws, hl with | [_], _ => .of_eq rfl, m_law_signs := PySem.W.mg_of X G a9,
    f_law_is_word := f10, d_law_is_word := _, F_law_is_word := F10, b_law_is_word := b10, kw_law_is_word := fun s ws hl => match ws, hl with | [_], _ => .of_eq rfl, m_law_is_word := PySem.W.mg_of X G a10,
    f_law_is_person := f11, d_law_is_person := _, F_law_is_person := F11, b_law_is_person := b11, kw_law_is_person := fun s ws hl => match ws, hl with | [_], _ => .of_eq rfl, m_law_is_person := PySem.W.mg_of X G a11,
    f_law_within := f12, d_law_within := _, F_law_within := F12, b_law_within := b12, kw_law_within := fun s ws hl => match ws, hl with | [_, _, _], _ => .of_eq rfl, m_law_within := PySem.W.mg_of X G a12,
    f_law_is_title := f13, d_law_is_title := _, F_law_is_title := F13, b_law_is_title := b13, kw_law_is_title := fun s ws hl => match ws, hl with | [_], _ => .of_eq rfl, m_law_is_title := PySem.W.mg_of X G a13,
    f_law_right := f14, d_law_right := _, F_law_right := F14, b_law_right := b14, kw_law_right := fun s ws hl => match ws, hl with | [_], _ => .of_eq rfl, m_law_right := PySem.W.mg_of X G a14,
    f_law := f15, d_law := _, F_law := F15, b_law := b15, kw_law := fun s ws hl => match ws, hl with | [_], _ => .of_eq rfl, m_law := PySem.W.mg_of X G a15,
    t_LONGEST_WORD := _, c_LONGEST_WORD := PySem.W.mg_of X G g_LONGEST_WORD,
    t_GREATEST_NUMBER := _, c_GREATEST_NUMBER := PySem.W.mg_of X G g_GREATEST_NUMBER,
    t_GREATEST_RANK := _, c_GREATEST_RANK := PySem.W.mg_of X G g_GREATEST_RANK,
    z_bool := PySem.W.mg_none_of X G z_bool,
    z_int := PySem.W.mg_none_of X G z_int,
    z_isinstance := PySem.W.mg_none_of X G z_isinstance,
    z_len := PySem.W.mg_none_of X G z_len,
    z_max := PySem.W.mg_none_of X G z_max,
    z_min := PySem.W.mg_none_of X G z_min,
    z_range := PySem.W.mg_none_of X G z_range,
    z_repr := PySem.W.mg_none_of X G z_repr,
    z_str := PySem.W.mg_none_of X G z_str,
    z_tuple := PySem.W.mg_none_of X G z_tuple
  }, rfl⟩⟩
theorem all_mk {l : PySem.W.OpenLaw} {w : World} {K : PySem.W.Frag} {mg : Str → Option Value} {fa : Addr} (hfa : mg "law" = some (.ref fa)) (T : Txt K mg) (hb : ∀ (s : Shared) (v : Value), BindsTo s T.d_law ⟨[v], []⟩ [("_law_script", v)]) :
    ∃ fd : FuncData, (∀ (s : Shared) (v : Value), BindsTo s fd ⟨[v], []⟩ [("_law_script", v)]) ∧ ∀ base : Heap, K.In base → base.Ns mainGlobals mg → FnG l.prog w K mg base CX0 5 fa fd ["_law_script"] (spLaw K) := by
  have e := hfa.symm.trans T.m_law
  cases e
  exact ⟨T.d_law, hb, fun base _ _ => ok_law T⟩
end K01
open PySem PySem.W PyProof.Rows
set_option maxHeartbeats 0 in
theorem PySem.Challenge.cw_branchedhall_k01_words_people_names_rank_holds : PySem.Challenge.rw_branchedhall_k01_words_people_names_rank.Holds := by
  w_on; o_law; k_head; (case hw => w_witness2)
  k_fill
  refine Br.walk_G (l := PySem.Challenge.rw_branchedhall_k01_words_people_names_rank) (n := 63) (k := 5) (x := "_law_script") (sp := K01.spLaw) rfl (by decide) rfl ⟨rfl, by decide, by decide⟩ (fun w h Y => PySem.W.kIn_of Y) ?F (fun _ _ a xs hl hS => ⟨a, xs, rfl, hS, hl, fun _ => rfl⟩)
  case F =>
    intro w mg fa h KX G hmg
    refine' (K01.txt_mk KX G ?a0 ?l0 ?c0 ?k0 ?a1 ?l1 ?c1 ?k1 ?a2 ?l2 ?c2 ?k2 ?a3 ?l3 ?c3 ?k3 ?a4 ?l4 ?c4 ?k4 ?a5 ?l5 ?c5 ?k5 ?a6 ?l6 ?c6 ?k6 ?a7 ?l7 ?c7 ?k7 ?a8 ?l8 ?c8 ?k8 ?a9 ?l9 ?c9 ?k9 ?a10 ?l10 ?c10 ?k10 ?a11 ?l11 ?c11 ?k11 ?a12 ?l12 ?c12 ?k12 ?a13 ?l13 ?c13 ?k13 ?a14 ?l14 ?c14 ?k14 ?a15 ?l15 ?c15 ?k15 ?g_LONGEST_WORD ?g_GREATEST_NUMBER ?g_GREATEST_RANK ?z_bool ?z_int ?z_isinstance ?z_len ?z_max ?z_min ?z_range ?z_repr ?z_str ?z_tuple).elim fun Z => K01.all_mk hmg Z.1 (fun s v => by rw [Z.2]; exact .of_eq rfl)
    case a0 => k_is
    case l0 => k_is
    case c0 => k_is
    case k0 => k_is
    case a1 => k_is
    case l1 => k_is
    case c1 => k_is
    case k1 => k_is
    case a2 => k_is
    case l2 => k_is
    case c2 => k_is
    case k2 => k_is
    case a3 => k_is
    case l3 => k_is
    case c3 => k_is
    case k3 => k_is
    case a4 => k_is
    case l4 => k_is
    case c4 => k_is
    case k4 => k_is
    case a5 => k_is
    case l5 => k_is
    case c5 => k_is
    case k5 => k_is
    case a6 => k_is
    case l6 => k_is
    case c6 => k_is
    case k6 => k_is
    case a7 => k_is
    case l7 => k_is
    case c7 => k_is
    case k7 => k_is
    case a8 => k_is
    case l8 => k_is
    case c8 => k_is
    case k8 => k_is
    case a9 => k_is
    case l9 => k_is
    case c9 => k_is
    case k9 => k_is
    case a10 => k_is
    case l10 => k_is
    case c10 => k_is
    case k10 => k_is
    case a11 => k_is
    case l11 => k_is
    case c11 => k_is
    case k11 => k_is
    case a12 => k_is
    case l12 => k_is
    case c12 => k_is
    case k12 => k_is
    case a13 => k_is
    case l13 => k_is
    case c13 => k_is
    case k13 => k_is
    case a14 => k_is
    case l14 => k_is
    case c14 => k_is
    case k14 => k_is
    case a15 => k_is
    case l15 => k_is
    case c15 => k_is
    case k15 => k_is
    case g_LONGEST_WORD => k_is
    case g_GREATEST_NUMBER => k_is
    case g_GREATEST_RANK => k_is
    case z_bool => k_is
    case z_int => k_is
    case z_isinstance => k_is
    case z_len => k_is
    case z_max => k_is
    case z_min => k_is
    case z_range => k_is
    case z_repr => k_is
    case z_str => k_is
    case z_tuple => k_is
